/- RatioOrder: fractions that differ; the walk. -/
import Derived.Test.YtmlijnobdddmnaaGreatDoorRrk
namespace Go.Proofs.YtmlijnobdddmnaaGreatDoor
open Go.RowKit
attribute [local go_sem ↓] Go.wp_at_zero Go.wp_at_succ
set_option linter.unusedVariables false

theorem irq {k : Nat} {w : World} {v : Value} {q : Rat} (hb : BQ k q) (h : IsRat w v q) : LimQ k w v q := h.limQ hb
theorem cmpQ_sub (x y : Rat) : cmpQ (x - y) 0 = cmpQ x y := by
  unfold cmpQ
  have h1 : x - y < 0 ↔ x < y := by constructor <;> intro h <;> grind
  have h2 : x - y = 0 ↔ x = y := by constructor <;> intro h <;> grind
  simp only [h1, h2]
theorem cmpQ_swap (x y : Rat) : cmpQ y x = -cmpQ x y := by unfold cmpQ; grind
theorem cmpQ_le {x y z : Rat} : cmpQ x y ≤ 0 → cmpQ y z ≤ 0 → cmpQ x z ≤ 0 := by unfold cmpQ; grind
theorem cmpQ_ge {x y z : Rat} : 0 ≤ cmpQ x y → 0 ≤ cmpQ y z → 0 ≤ cmpQ x z := by unfold cmpQ; grind
theorem cmpQ_3 (x y : Rat) : cmpQ x y = -1 ∨ cmpQ x y = 0 ∨ cmpQ x y = 1 := by unfold cmpQ; grind
theorem cmpQ_eq (x y : Rat) : cmpQ x y = 0 ↔ x = y := by unfold cmpQ; grind
set_option maxHeartbeats 1000000 in
theorem isInt_differ {k : Nat} {w : World} {v v' : Value} {X Y : Int} (h : IsInt w v X) (h' : IsInt w v' Y) (hX : X.natAbs < 4294967296 ^ k) (hY : Y.natAbs < 4294967296 ^ k) (hk : k ≤ 1000000) (hne : X ≠ Y) :
    Calls Tryz.prog 32 #[v, v'] w fun e w' => e = .returned (.bool false) ∧ Below w.heap.size w w' := by
  obtain ⟨m, rfl, h1⟩ := h
  obtain ⟨m', rfl, h1'⟩ := h'
  obtain ⟨A, n, c, rfl, _, h1⟩ := isNat_form h1
  obtain ⟨B, m, d, rfl, _, h1'⟩ := isNat_form h1'
  by_cases hb : decide (X < 0) = decide (Y < 0)
  · have hn : X.natAbs ≠ Y.natAbs := by
      rw [decide_eq_decide] at hb
      omega
    rw [hb]
    generalize decide (Y < 0) = b
    have H1 := Lib.hid h1
    have H2 := Lib.hid h1'
    have HX := Lib.hid hX
    have HY := Lib.hid hY
    have HN := Lib.hid hn
    clear hb hn hne
    have hs0 : w.heap.size < w.heap.size + 1 + 1 := by omega
    go_enter Tryz.func32, Tryz.ntmps32
    go_wp2_with fail
    refine Calls.mono (isNat_differ (k := k) ((H1.out.alloc_ _).alloc_ _) ((H2.out.alloc_ _).alloc_ _) HX.out HY.out hk HN.out) ?_
    rintro e w1 ⟨rfl, hb1⟩
    have HB := Lib.hid (show Below w.heap.size w w1 from bun (bun hb1))
    clear hb1
    go_wp2
    go_ret
    exact ⟨rfl, HB.out⟩
  · generalize decide (X < 0) = b at *
    generalize decide (Y < 0) = b' at *
    clear h1 h1' hX hY hne
    cases b <;> cases b'
    · exact absurd rfl hb
    · clear hb
      go_enter Tryz.func32, Tryz.ntmps32
      go_wp2
      go_ret
      exact ⟨rfl, bun (bun (Below.refl _ _))⟩
    · clear hb
      go_enter Tryz.func32, Tryz.ntmps32
      go_wp2
      go_ret
      exact ⟨rfl, bun (bun (Below.refl _ _))⟩
    · exact absurd rfl hb

set_option maxRecDepth 100000 in
set_option maxHeartbeats 1000000 in
theorem differ_n (b : Bool) (A : Option Addr) (n c : Nat) (b' : Bool) (A' : Option Addr) (n' c' : Nat) (p : Bool) (P : Option Addr) (m d : Nat) (p' : Bool) (P' : Option Addr) (m' d' : Nat) (w : World) (k : Nat) (x y : Rat) (hx : IsRat w (.agg #[.bool b, .slice A n c, .bool b', .slice A' n' c']) x) (hy : IsRat w (.agg #[.bool p, .slice P m d, .bool p', .slice P' m' d']) y) (hb : BQ k x) (hb' : BQ k y) (hk : k ≤ 100000) (hne : x.num ≠ y.num) :
    Calls Tryz.prog 18 #[(.agg #[.bool b, .slice A n c, .bool b', .slice A' n' c']), (.agg #[.bool p, .slice P m d, .bool p', .slice P' m' d'])] w fun e w' => e = .returned (.bool false) ∧ Below w.heap.size w w' := by
  obtain ⟨_, _, _, _, e0, s1, s2⟩ := hx
  injection e0 with e0
  injection e0 with e0
  simp at e0
  obtain ⟨rfl, rfl, rfl, rfl⟩ := e0
  obtain ⟨_, _, _, _, e0, s3, s4⟩ := hy
  injection e0 with e0
  injection e0 with e0
  simp at e0
  obtain ⟨rfl, rfl, rfl, rfl⟩ := e0
  have BN := Lib.hid hb.1
  have BD := Lib.hid (show ((x.den : Int)).natAbs < 4294967296 ^ k from hb.2)
  have BN' := Lib.hid hb'.1
  have BD' := Lib.hid (show ((y.den : Int)).natAbs < 4294967296 ^ k from hb'.2)
  have HN := Lib.hid hne
  have x_0 := Lib.hid s1
  have y_0 := Lib.hid s2
  have u_0 := Lib.hid s3
  have v_0 := Lib.hid s4
  clear s1 s2 s3 s4 hb hb' hne
  go_enter Tryz.func18, Tryz.ntmps18
  go_wp2_with fail
  refine Calls.mono (isInt_differ ((x_0.out.alloc_ _).alloc_ _) ((u_0.out.alloc_ _).alloc_ _) BN.out BN'.out (by omega) HN.out) ?_
  rintro e w1 ⟨rfl, hb⟩
  have hB := bun (bun (hb))
  have x_1 := Lib.hid (x_0.out.below hB)
  have y_1 := Lib.hid (y_0.out.below hB)
  have u_1 := Lib.hid (u_0.out.below hB)
  have v_1 := Lib.hid (v_0.out.below hB)
  have Ka_1 := Lib.hid (show Blk w1 (w.heap.size) 26 #[.bool b, .slice A n c, .bool b', .slice A' n' c'] from ((Blk.new _ _ (by simp) _ _).alloc_ _).below hb)
  have Kb_1 := Lib.hid (show Blk w1 (w.heap.size + 1) 26 #[.bool p, .slice P m d, .bool p', .slice P' m' d'] from (Blk.new _ _ (by simp) _ _).below hb)
  have HB_1 := Lib.hid (hB)
  have hs_1 : w.heap.size ≤ w1.heap.size := HB_1.out.size
  have hz_1 : w.heap.size + 2 ≤ w1.heap.size := (by have h := hb.size; (try simp at h); omega)
  clear hB hb x_0 y_0 u_0 v_0
  go_wp2
  go_ret
  exact ⟨rfl, HB_1.out⟩

set_option maxRecDepth 100000 in
set_option maxHeartbeats 1000000 in
theorem differ_d (b : Bool) (A : Option Addr) (n c : Nat) (b' : Bool) (A' : Option Addr) (n' c' : Nat) (p : Bool) (P : Option Addr) (m d : Nat) (p' : Bool) (P' : Option Addr) (m' d' : Nat) (w : World) (k : Nat) (x y : Rat) (hx : IsRat w (.agg #[.bool b, .slice A n c, .bool b', .slice A' n' c']) x) (hy : IsRat w (.agg #[.bool p, .slice P m d, .bool p', .slice P' m' d']) y) (hb : BQ k x) (hb' : BQ k y) (hk : k ≤ 100000) (he : x.num = y.num) (hne : (x.den : Int) ≠ (y.den : Int)) :
    Calls Tryz.prog 18 #[(.agg #[.bool b, .slice A n c, .bool b', .slice A' n' c']), (.agg #[.bool p, .slice P m d, .bool p', .slice P' m' d'])] w fun e w' => e = .returned (.bool false) ∧ Below w.heap.size w w' := by
  obtain ⟨_, _, _, _, e0, s1, s2⟩ := hx
  injection e0 with e0
  injection e0 with e0
  simp at e0
  obtain ⟨rfl, rfl, rfl, rfl⟩ := e0
  obtain ⟨_, _, _, _, e0, s3, s4⟩ := hy
  injection e0 with e0
  injection e0 with e0
  simp at e0
  obtain ⟨rfl, rfl, rfl, rfl⟩ := e0
  have BN := Lib.hid hb.1
  have BD := Lib.hid (show ((x.den : Int)).natAbs < 4294967296 ^ k from hb.2)
  have BN' := Lib.hid hb'.1
  have BD' := Lib.hid (show ((y.den : Int)).natAbs < 4294967296 ^ k from hb'.2)
  rw [← he] at s3
  have HN := Lib.hid hne
  have x_0 := Lib.hid s1
  have y_0 := Lib.hid s2
  have u_0 := Lib.hid s3
  have v_0 := Lib.hid s4
  clear s1 s2 s3 s4 hb hb' hne
  clear he
  go_enter Tryz.func18, Tryz.ntmps18
  go_wp2_with fail
  refine Calls.mono (isInt_same ((x_0.out.alloc_ _).alloc_ _) ((u_0.out.alloc_ _).alloc_ _) BN.out (by omega)) ?_
  rintro e w1 ⟨rfl, hb⟩
  have hB := bun (bun (hb))
  have y_1 := Lib.hid (y_0.out.below hB)
  have v_1 := Lib.hid (v_0.out.below hB)
  have Ka_1 := Lib.hid (show Blk w1 (w.heap.size) 26 #[.bool b, .slice A n c, .bool b', .slice A' n' c'] from ((Blk.new _ _ (by simp) _ _).alloc_ _).below hb)
  have Kb_1 := Lib.hid (show Blk w1 (w.heap.size + 1) 26 #[.bool p, .slice P m d, .bool p', .slice P' m' d'] from (Blk.new _ _ (by simp) _ _).below hb)
  have HB_1 := Lib.hid (hB)
  have hs_1 : w.heap.size ≤ w1.heap.size := HB_1.out.size
  have hz_1 : w.heap.size + 2 ≤ w1.heap.size := (by have h := hb.size; (try simp at h); omega)
  clear hB hb x_0 y_0 u_0 v_0
  obtain ⟨p10, p11, p12, p13, l1⟩ := Ka_1.out.use4
  obtain ⟨p20, p21, p22, p23, l2⟩ := Kb_1.out.use4
  go_wp2_with fail
  refine Calls.mono (isInt_differ y_1.out v_1.out BD.out BD'.out (by omega) HN.out) ?_
  rintro e w2 ⟨rfl, hb⟩
  have hB := hb
  have y_2 := Lib.hid (y_1.out.below hB)
  have v_2 := Lib.hid (v_1.out.below hB)
  have Ka_2 := Lib.hid (Ka_1.out.below hB)
  have Kb_2 := Lib.hid (Kb_1.out.below hB)
  have HB_2 := Lib.hid (below_trans HB_1.out hB)
  have hs_2 : w.heap.size ≤ w2.heap.size := HB_2.out.size
  have hz_2 : w1.heap.size + 0 ≤ w2.heap.size := (by have h := hb.size; (try simp at h); omega)
  clear hB hb y_1 v_1 Ka_1 Kb_1 HB_1 p10 p11 p12 p13 l1 p20 p21 p22 p23 l2
  go_wp2
  go_ret
  exact ⟨rfl, HB_2.out⟩

theorem rat_same_is {k : Nat} {w : World} {v v' : Value} {x y : Rat} {r : Bool} (hr : decide (x = y) = r) (hx : IsRat w v x) (hy : IsRat w v' y) (hb : BQ k x) (hb' : BQ k y) (hk : k ≤ 100000) : Calls Tryz.prog 18 #[v, v'] w fun e w' => e = .returned (.bool r) ∧ Below w.heap.size w w' := by
  subst hr
  have Hx := hx
  have Hy := hy
  obtain ⟨b, A, n, c, b', A', n', c', rfl, -⟩ := hx.form
  obtain ⟨p, P, m, d, p', P', m', d', rfl, -⟩ := hy.form
  by_cases h : x = y
  · rw [decide_eq_true h]
    subst h
    exact rat_same Hx Hy hb hk
  · rw [decide_eq_false h]
    by_cases hn : x.num = y.num
    · refine differ_d b A n c b' A' n' c' p P m d p' P' m' d' w k x y Hx Hy hb hb' hk hn fun hd => h ?_
      exact Rat.ext hn (by omega)
    · exact differ_n b A n c b' A' n' c' p P m d p' P' m' d' w k x y Hx Hy hb hb' hk hn

set_option maxRecDepth 100000 in
set_option maxHeartbeats 2000000 in
theorem order_no0 (b00 : Bool) (a00 : Option Addr) (n00 c00 : Nat) (e00 : Bool) (g00 : Option Addr) (m00 k00 : Nat) (b01 : Bool) (a01 : Option Addr) (n01 c01 : Nat) (e01 : Bool) (g01 : Option Addr) (m01 k01 : Nat) (b02 : Bool) (a02 : Option Addr) (n02 c02 : Nat) (e02 : Bool) (g02 : Option Addr) (m02 k02 : Nat) (w : World) (h0 : (decide (n00 ≤ 4) && decide (m00 ≤ 4)) = false) :
    Calls Tryz.prog 10 #[(.agg #[.bool b00, .slice a00 n00 c00, .bool e00, .slice g00 m00 k00]), (.agg #[.bool b01, .slice a01 n01 c01, .bool e01, .slice g01 m01 k01]), (.agg #[.bool b02, .slice a02 n02 c02, .bool e02, .slice g02 m02 k02])] w fun e w' => e = .returned (.bool true) ∧ Below w.heap.size w w' := by
  have F0 := Lib.hid h0
  clear h0
  go_enter Tryz.func10, Tryz.ntmps10
  go_wp2_with fail
  refine Calls.mono (awake3 _) ?_
  rintro e w1 ⟨rfl, hb⟩
  have hB := bun (bun (bun (hb)))
  have Ka_1 := Lib.hid (show Blk w1 (w.heap.size) 26 #[.bool b00, .slice a00 n00 c00, .bool e00, .slice g00 m00 k00] from (((Blk.new _ _ (by simp) _ _).alloc_ _).alloc_ _).below hb)
  have Kb_1 := Lib.hid (show Blk w1 (w.heap.size + 1) 26 #[.bool b01, .slice a01 n01 c01, .bool e01, .slice g01 m01 k01] from ((Blk.new _ _ (by simp) _ _).alloc_ _).below hb)
  have Kc_1 := Lib.hid (show Blk w1 (w.heap.size + 1 + 1) 26 #[.bool b02, .slice a02 n02 c02, .bool e02, .slice g02 m02 k02] from (Blk.new _ _ (by simp) _ _).below hb)
  have HB_1 := Lib.hid (hB)
  have hs_1 : w.heap.size ≤ w1.heap.size := HB_1.out.size
  have hz_1 : w.heap.size + 3 ≤ w1.heap.size := (by have h := hb.size; (try simp at h); omega)
  clear hB hb 
  obtain ⟨p10, p11, p12, p13, l1⟩ := Ka_1.out.use4
  go_wp2_with fail
  refine Calls.mono (few_is _ _ _ _ _ _ _ _ _ false F0.out) ?_
  rintro e w2 ⟨rfl, hb⟩
  have hB := hb
  have Ka_2 := Lib.hid (Ka_1.out.below hB)
  have Kb_2 := Lib.hid (Kb_1.out.below hB)
  have Kc_2 := Lib.hid (Kc_1.out.below hB)
  have HB_2 := Lib.hid (below_trans HB_1.out hB)
  have hs_2 : w.heap.size ≤ w2.heap.size := HB_2.out.size
  have hz_2 : w1.heap.size + 0 ≤ w2.heap.size := (by have h := hb.size; (try simp at h); omega)
  clear hB hb Ka_1 Kb_1 Kc_1 HB_1 p10 p11 p12 p13 l1
  go_wp2
  go_ret
  exact ⟨rfl, HB_2.out⟩

set_option maxRecDepth 100000 in
set_option maxHeartbeats 2000000 in
theorem order_no1 (b00 : Bool) (a00 : Option Addr) (n00 c00 : Nat) (e00 : Bool) (g00 : Option Addr) (m00 k00 : Nat) (b01 : Bool) (a01 : Option Addr) (n01 c01 : Nat) (e01 : Bool) (g01 : Option Addr) (m01 k01 : Nat) (b02 : Bool) (a02 : Option Addr) (n02 c02 : Nat) (e02 : Bool) (g02 : Option Addr) (m02 k02 : Nat) (w : World) (h0 : (decide (n00 ≤ 4) && decide (m00 ≤ 4)) = true) (h1 : (decide (n01 ≤ 4) && decide (m01 ≤ 4)) = false) :
    Calls Tryz.prog 10 #[(.agg #[.bool b00, .slice a00 n00 c00, .bool e00, .slice g00 m00 k00]), (.agg #[.bool b01, .slice a01 n01 c01, .bool e01, .slice g01 m01 k01]), (.agg #[.bool b02, .slice a02 n02 c02, .bool e02, .slice g02 m02 k02])] w fun e w' => e = .returned (.bool true) ∧ Below w.heap.size w w' := by
  have F0 := Lib.hid h0
  clear h0
  have F1 := Lib.hid h1
  clear h1
  go_enter Tryz.func10, Tryz.ntmps10
  go_wp2_with fail
  refine Calls.mono (awake3 _) ?_
  rintro e w1 ⟨rfl, hb⟩
  have hB := bun (bun (bun (hb)))
  have Ka_1 := Lib.hid (show Blk w1 (w.heap.size) 26 #[.bool b00, .slice a00 n00 c00, .bool e00, .slice g00 m00 k00] from (((Blk.new _ _ (by simp) _ _).alloc_ _).alloc_ _).below hb)
  have Kb_1 := Lib.hid (show Blk w1 (w.heap.size + 1) 26 #[.bool b01, .slice a01 n01 c01, .bool e01, .slice g01 m01 k01] from ((Blk.new _ _ (by simp) _ _).alloc_ _).below hb)
  have Kc_1 := Lib.hid (show Blk w1 (w.heap.size + 1 + 1) 26 #[.bool b02, .slice a02 n02 c02, .bool e02, .slice g02 m02 k02] from (Blk.new _ _ (by simp) _ _).below hb)
  have HB_1 := Lib.hid (hB)
  have hs_1 : w.heap.size ≤ w1.heap.size := HB_1.out.size
  have hz_1 : w.heap.size + 3 ≤ w1.heap.size := (by have h := hb.size; (try simp at h); omega)
  clear hB hb 
  obtain ⟨p10, p11, p12, p13, l1⟩ := Ka_1.out.use4
  go_wp2_with fail
  refine Calls.mono (few_is _ _ _ _ _ _ _ _ _ true F0.out) ?_
  rintro e w2 ⟨rfl, hb⟩
  have hB := hb
  have Ka_2 := Lib.hid (Ka_1.out.below hB)
  have Kb_2 := Lib.hid (Kb_1.out.below hB)
  have Kc_2 := Lib.hid (Kc_1.out.below hB)
  have HB_2 := Lib.hid (below_trans HB_1.out hB)
  have hs_2 : w.heap.size ≤ w2.heap.size := HB_2.out.size
  have hz_2 : w1.heap.size + 0 ≤ w2.heap.size := (by have h := hb.size; (try simp at h); omega)
  clear hB hb Ka_1 Kb_1 Kc_1 HB_1 p10 p11 p12 p13 l1
  obtain ⟨p20, p21, p22, p23, l2⟩ := Kb_2.out.use4
  go_wp2_with fail
  refine Calls.mono (few_is _ _ _ _ _ _ _ _ _ false F1.out) ?_
  rintro e w3 ⟨rfl, hb⟩
  have hB := hb
  have Ka_3 := Lib.hid (Ka_2.out.below hB)
  have Kb_3 := Lib.hid (Kb_2.out.below hB)
  have Kc_3 := Lib.hid (Kc_2.out.below hB)
  have HB_3 := Lib.hid (below_trans HB_2.out hB)
  have hs_3 : w.heap.size ≤ w3.heap.size := HB_3.out.size
  have hz_3 : w2.heap.size + 0 ≤ w3.heap.size := (by have h := hb.size; (try simp at h); omega)
  clear hB hb Ka_2 Kb_2 Kc_2 HB_2 p20 p21 p22 p23 l2
  go_wp2
  go_ret
  exact ⟨rfl, HB_3.out⟩

set_option maxRecDepth 100000 in
set_option maxHeartbeats 2000000 in
theorem order_no2 (b00 : Bool) (a00 : Option Addr) (n00 c00 : Nat) (e00 : Bool) (g00 : Option Addr) (m00 k00 : Nat) (b01 : Bool) (a01 : Option Addr) (n01 c01 : Nat) (e01 : Bool) (g01 : Option Addr) (m01 k01 : Nat) (b02 : Bool) (a02 : Option Addr) (n02 c02 : Nat) (e02 : Bool) (g02 : Option Addr) (m02 k02 : Nat) (w : World) (h0 : (decide (n00 ≤ 4) && decide (m00 ≤ 4)) = true) (h1 : (decide (n01 ≤ 4) && decide (m01 ≤ 4)) = true) (h2 : (decide (n02 ≤ 4) && decide (m02 ≤ 4)) = false) :
    Calls Tryz.prog 10 #[(.agg #[.bool b00, .slice a00 n00 c00, .bool e00, .slice g00 m00 k00]), (.agg #[.bool b01, .slice a01 n01 c01, .bool e01, .slice g01 m01 k01]), (.agg #[.bool b02, .slice a02 n02 c02, .bool e02, .slice g02 m02 k02])] w fun e w' => e = .returned (.bool true) ∧ Below w.heap.size w w' := by
  have F0 := Lib.hid h0
  clear h0
  have F1 := Lib.hid h1
  clear h1
  have F2 := Lib.hid h2
  clear h2
  go_enter Tryz.func10, Tryz.ntmps10
  go_wp2_with fail
  refine Calls.mono (awake3 _) ?_
  rintro e w1 ⟨rfl, hb⟩
  have hB := bun (bun (bun (hb)))
  have Ka_1 := Lib.hid (show Blk w1 (w.heap.size) 26 #[.bool b00, .slice a00 n00 c00, .bool e00, .slice g00 m00 k00] from (((Blk.new _ _ (by simp) _ _).alloc_ _).alloc_ _).below hb)
  have Kb_1 := Lib.hid (show Blk w1 (w.heap.size + 1) 26 #[.bool b01, .slice a01 n01 c01, .bool e01, .slice g01 m01 k01] from ((Blk.new _ _ (by simp) _ _).alloc_ _).below hb)
  have Kc_1 := Lib.hid (show Blk w1 (w.heap.size + 1 + 1) 26 #[.bool b02, .slice a02 n02 c02, .bool e02, .slice g02 m02 k02] from (Blk.new _ _ (by simp) _ _).below hb)
  have HB_1 := Lib.hid (hB)
  have hs_1 : w.heap.size ≤ w1.heap.size := HB_1.out.size
  have hz_1 : w.heap.size + 3 ≤ w1.heap.size := (by have h := hb.size; (try simp at h); omega)
  clear hB hb 
  obtain ⟨p10, p11, p12, p13, l1⟩ := Ka_1.out.use4
  go_wp2_with fail
  refine Calls.mono (few_is _ _ _ _ _ _ _ _ _ true F0.out) ?_
  rintro e w2 ⟨rfl, hb⟩
  have hB := hb
  have Ka_2 := Lib.hid (Ka_1.out.below hB)
  have Kb_2 := Lib.hid (Kb_1.out.below hB)
  have Kc_2 := Lib.hid (Kc_1.out.below hB)
  have HB_2 := Lib.hid (below_trans HB_1.out hB)
  have hs_2 : w.heap.size ≤ w2.heap.size := HB_2.out.size
  have hz_2 : w1.heap.size + 0 ≤ w2.heap.size := (by have h := hb.size; (try simp at h); omega)
  clear hB hb Ka_1 Kb_1 Kc_1 HB_1 p10 p11 p12 p13 l1
  obtain ⟨p20, p21, p22, p23, l2⟩ := Kb_2.out.use4
  go_wp2_with fail
  refine Calls.mono (few_is _ _ _ _ _ _ _ _ _ true F1.out) ?_
  rintro e w3 ⟨rfl, hb⟩
  have hB := hb
  have Ka_3 := Lib.hid (Ka_2.out.below hB)
  have Kb_3 := Lib.hid (Kb_2.out.below hB)
  have Kc_3 := Lib.hid (Kc_2.out.below hB)
  have HB_3 := Lib.hid (below_trans HB_2.out hB)
  have hs_3 : w.heap.size ≤ w3.heap.size := HB_3.out.size
  have hz_3 : w2.heap.size + 0 ≤ w3.heap.size := (by have h := hb.size; (try simp at h); omega)
  clear hB hb Ka_2 Kb_2 Kc_2 HB_2 p20 p21 p22 p23 l2
  obtain ⟨p30, p31, p32, p33, l3⟩ := Kc_3.out.use4
  go_wp2_with fail
  refine Calls.mono (few_is _ _ _ _ _ _ _ _ _ false F2.out) ?_
  rintro e w4 ⟨rfl, hb⟩
  have hB := hb
  have Ka_4 := Lib.hid (Ka_3.out.below hB)
  have Kb_4 := Lib.hid (Kb_3.out.below hB)
  have Kc_4 := Lib.hid (Kc_3.out.below hB)
  have HB_4 := Lib.hid (below_trans HB_3.out hB)
  have hs_4 : w.heap.size ≤ w4.heap.size := HB_4.out.size
  have hz_4 : w3.heap.size + 0 ≤ w4.heap.size := (by have h := hb.size; (try simp at h); omega)
  clear hB hb Ka_3 Kb_3 Kc_3 HB_3 p30 p31 p32 p33 l3
  go_wp2
  go_ret
  exact ⟨rfl, HB_4.out⟩

set_option maxRecDepth 100000 in
set_option maxHeartbeats 32000000 in
theorem order_l (b00 : Bool) (a00 : Option Addr) (n00 c00 : Nat) (e00 : Bool) (g00 : Option Addr) (m00 k00 : Nat) (b01 : Bool) (a01 : Option Addr) (n01 c01 : Nat) (e01 : Bool) (g01 : Option Addr) (m01 k01 : Nat) (b02 : Bool) (a02 : Option Addr) (n02 c02 : Nat) (e02 : Bool) (g02 : Option Addr) (m02 k02 : Nat) (w : World) (X Y X' Y' X'' Y'' : Int) (hx : LimR 4 w (.agg #[.bool b00, .slice a00 n00 c00, .bool e00, .slice g00 m00 k00]) X Y) (hy : LimR 4 w (.agg #[.bool b01, .slice a01 n01 c01, .bool e01, .slice g01 m01 k01]) X' Y') (hz : LimR 4 w (.agg #[.bool b02, .slice a02 n02 c02, .bool e02, .slice g02 m02 k02]) X'' Y'') (h0 : (decide (n00 ≤ 4) && decide (m00 ≤ 4)) = true) (h1 : (decide (n01 ≤ 4) && decide (m01 ≤ 4)) = true) (h2 : (decide (n02 ≤ 4) && decide (m02 ≤ 4)) = true) (hs : cmpQ (ratOf X Y) (ratOf X' Y') = (-1)) :
    Calls Tryz.prog 10 #[(.agg #[.bool b00, .slice a00 n00 c00, .bool e00, .slice g00 m00 k00]), (.agg #[.bool b01, .slice a01 n01 c01, .bool e01, .slice g01 m01 k01]), (.agg #[.bool b02, .slice a02 n02 c02, .bool e02, .slice g02 m02 k02])] w fun e w' => e = .returned (.bool true) ∧ Below w.heap.size w w' := by
  have F0 := Lib.hid h0
  have F1 := Lib.hid h1
  have F2 := Lib.hid h2
  obtain ⟨x, hq⟩ : ∃ q, q = ratOf X Y := ⟨_, rfl⟩
  obtain ⟨y, hp⟩ : ∃ q, q = ratOf X' Y' := ⟨_, rfl⟩
  obtain ⟨z, hr⟩ : ∃ q, q = ratOf X'' Y'' := ⟨_, rfl⟩
  rw [← hq, ← hp] at hs
  have BX := Lib.hid ((lq hq hx).bq (by omega))
  have BY := Lib.hid ((lq hp hy).bq (by omega))
  have BZ : Hid (BQ 1 (0 : Rat)) := bq_chk (by decide)
  have BS := Lib.hid (bq_sub BX.out BY.out)
  obtain ⟨u, hu⟩ : ∃ u, cmpQ y z = u := ⟨_, rfl⟩
  obtain ⟨v, hv⟩ : ∃ u, cmpQ x z = u := ⟨_, rfl⟩
  have T1 := @cmpQ_le x y z
  have T2 := @cmpQ_ge x y z
  have hu3 := cmpQ_3 y z
  have hv3 := cmpQ_3 x z
  rw [hs, hu, hv] at T1 T2
  rw [hu] at hu3
  rw [hv] at hv3
  have HS := Lib.hid hs
  have HU := Lib.hid hu
  have HV := Lib.hid hv
  have HS1 : Hid (cmpQ (x - y) 0 = (-1)) := by show _ = _; rw [cmpQ_sub]; exact hs
  obtain ⟨r0, hr0⟩ : ∃ r, cmpQ y x = r := ⟨_, rfl⟩
  have hr1 : r0 = 1 := by rw [← hr0, cmpQ_swap, hs]; try rfl
  have hw1 : IntKind.i64.wrap (0 - r0) = (-1) := by rw [hr1]; decide
  have hw2 : IntKind.i64.wrap (-r0) = (-1) := by rw [hr1]; decide
  have HS2 := Lib.hid hr0
  clear hr0 hr1
  have HE : Hid (decide (x = y) = false) := by
    show _ = _
    have := cmpQ_eq x y
    rw [hs] at this
    exact decide_eq_false fun h => absurd (this.2 h) (by decide)
  have HT1 := Lib.hid T1
  have HT2 := Lib.hid T2
  have HU3 := Lib.hid hu3
  have HV3 := Lib.hid hv3
  have HQ := Lib.hid hq
  have HP := Lib.hid hp
  have HR := Lib.hid hr
  have x_0 := Lib.hid hx
  have y_0 := Lib.hid hy
  have z_0 := Lib.hid hz
  clear h0 h1 h2 hq hp hr hs hu hv hx hy hz T1 T2 hu3 hv3
  go_enter Tryz.func10, Tryz.ntmps10
  go_wp2_with fail
  refine Calls.mono (awake3 _) ?_
  rintro e w1 ⟨rfl, hb⟩
  have hB := bun (bun (bun (hb)))
  have x_1 := Lib.hid (x_0.out.below hB)
  have y_1 := Lib.hid (y_0.out.below hB)
  have z_1 := Lib.hid (z_0.out.below hB)
  have Ka_1 := Lib.hid (show Blk w1 (w.heap.size) 26 #[.bool b00, .slice a00 n00 c00, .bool e00, .slice g00 m00 k00] from (((Blk.new _ _ (by simp) _ _).alloc_ _).alloc_ _).below hb)
  have Kb_1 := Lib.hid (show Blk w1 (w.heap.size + 1) 26 #[.bool b01, .slice a01 n01 c01, .bool e01, .slice g01 m01 k01] from ((Blk.new _ _ (by simp) _ _).alloc_ _).below hb)
  have Kc_1 := Lib.hid (show Blk w1 (w.heap.size + 1 + 1) 26 #[.bool b02, .slice a02 n02 c02, .bool e02, .slice g02 m02 k02] from (Blk.new _ _ (by simp) _ _).below hb)
  have HB_1 := Lib.hid (hB)
  have hs_1 : w.heap.size ≤ w1.heap.size := HB_1.out.size
  have hz_1 : w.heap.size + 3 ≤ w1.heap.size := (by have h := hb.size; (try simp at h); omega)
  clear hB hb x_0 y_0 z_0
  obtain ⟨p10, p11, p12, p13, l1⟩ := Ka_1.out.use4
  go_wp2_with fail
  refine Calls.mono (few_is _ _ _ _ _ _ _ _ _ true F0.out) ?_
  rintro e w2 ⟨rfl, hb⟩
  have hB := hb
  have x_2 := Lib.hid (x_1.out.below hB)
  have y_2 := Lib.hid (y_1.out.below hB)
  have z_2 := Lib.hid (z_1.out.below hB)
  have Ka_2 := Lib.hid (Ka_1.out.below hB)
  have Kb_2 := Lib.hid (Kb_1.out.below hB)
  have Kc_2 := Lib.hid (Kc_1.out.below hB)
  have HB_2 := Lib.hid (below_trans HB_1.out hB)
  have hs_2 : w.heap.size ≤ w2.heap.size := HB_2.out.size
  have hz_2 : w1.heap.size + 0 ≤ w2.heap.size := (by have h := hb.size; (try simp at h); omega)
  clear hB hb x_1 y_1 z_1 Ka_1 Kb_1 Kc_1 HB_1 p10 p11 p12 p13 l1
  obtain ⟨p20, p21, p22, p23, l2⟩ := Kb_2.out.use4
  go_wp2_with fail
  refine Calls.mono (few_is _ _ _ _ _ _ _ _ _ true F1.out) ?_
  rintro e w3 ⟨rfl, hb⟩
  have hB := hb
  have x_3 := Lib.hid (x_2.out.below hB)
  have y_3 := Lib.hid (y_2.out.below hB)
  have z_3 := Lib.hid (z_2.out.below hB)
  have Ka_3 := Lib.hid (Ka_2.out.below hB)
  have Kb_3 := Lib.hid (Kb_2.out.below hB)
  have Kc_3 := Lib.hid (Kc_2.out.below hB)
  have HB_3 := Lib.hid (below_trans HB_2.out hB)
  have hs_3 : w.heap.size ≤ w3.heap.size := HB_3.out.size
  have hz_3 : w2.heap.size + 0 ≤ w3.heap.size := (by have h := hb.size; (try simp at h); omega)
  clear hB hb x_2 y_2 z_2 Ka_2 Kb_2 Kc_2 HB_2 p20 p21 p22 p23 l2
  obtain ⟨p30, p31, p32, p33, l3⟩ := Kc_3.out.use4
  go_wp2_with fail
  refine Calls.mono (few_is _ _ _ _ _ _ _ _ _ true F2.out) ?_
  rintro e w4 ⟨rfl, hb⟩
  have hB := hb
  have x_4 := Lib.hid (x_3.out.below hB)
  have y_4 := Lib.hid (y_3.out.below hB)
  have z_4 := Lib.hid (z_3.out.below hB)
  have Ka_4 := Lib.hid (Ka_3.out.below hB)
  have Kb_4 := Lib.hid (Kb_3.out.below hB)
  have Kc_4 := Lib.hid (Kc_3.out.below hB)
  have HB_4 := Lib.hid (below_trans HB_3.out hB)
  have hs_4 : w.heap.size ≤ w4.heap.size := HB_4.out.size
  have hz_4 : w3.heap.size + 0 ≤ w4.heap.size := (by have h := hb.size; (try simp at h); omega)
  clear hB hb x_3 y_3 z_3 Ka_3 Kb_3 Kc_3 HB_3 p30 p31 p32 p33 l3
  obtain ⟨p40, p41, p42, p43, l4⟩ := Ka_4.out.use4
  obtain ⟨p50, p51, p52, p53, l5⟩ := Kb_4.out.use4
  go_wp2_with fail
  refine Calls.mono (qcmp_is HS.out (lq HQ.out x_4.out) (lq HP.out y_4.out) (by omega) (by omega) (by omega) (by omega)) ?_
  rintro e w5 ⟨rfl, hb⟩
  have hB := hb
  have x_5 := Lib.hid (x_4.out.below hB)
  have y_5 := Lib.hid (y_4.out.below hB)
  have z_5 := Lib.hid (z_4.out.below hB)
  have Ka_5 := Lib.hid (Ka_4.out.below hB)
  have Kb_5 := Lib.hid (Kb_4.out.below hB)
  have Kc_5 := Lib.hid (Kc_4.out.below hB)
  have HB_5 := Lib.hid (below_trans HB_4.out hB)
  have hs_5 : w.heap.size ≤ w5.heap.size := HB_5.out.size
  have hz_5 : w4.heap.size + 0 ≤ w5.heap.size := (by have h := hb.size; (try simp at h); omega)
  clear hB hb x_4 y_4 z_4 Ka_4 Kb_4 Kc_4 HB_4 p40 p41 p42 p43 l4 p50 p51 p52 p53 l5
  obtain ⟨p60, p61, p62, p63, l6⟩ := Kb_5.out.use4
  obtain ⟨p70, p71, p72, p73, l7⟩ := Kc_5.out.use4
  go_wp2_with fail
  refine Calls.mono (qcmp_is HU.out (lq HP.out y_5.out) (lq HR.out z_5.out) (by omega) (by omega) (by omega) (by omega)) ?_
  rintro e w6 ⟨rfl, hb⟩
  have hB := hb
  have x_6 := Lib.hid (x_5.out.below hB)
  have y_6 := Lib.hid (y_5.out.below hB)
  have z_6 := Lib.hid (z_5.out.below hB)
  have Ka_6 := Lib.hid (Ka_5.out.below hB)
  have Kb_6 := Lib.hid (Kb_5.out.below hB)
  have Kc_6 := Lib.hid (Kc_5.out.below hB)
  have HB_6 := Lib.hid (below_trans HB_5.out hB)
  have hs_6 : w.heap.size ≤ w6.heap.size := HB_6.out.size
  have hz_6 : w5.heap.size + 0 ≤ w6.heap.size := (by have h := hb.size; (try simp at h); omega)
  clear hB hb x_5 y_5 z_5 Ka_5 Kb_5 Kc_5 HB_5 p60 p61 p62 p63 l6 p70 p71 p72 p73 l7
  obtain ⟨p80, p81, p82, p83, l8⟩ := Ka_6.out.use4
  obtain ⟨p90, p91, p92, p93, l9⟩ := Kc_6.out.use4
  go_wp2_with fail
  refine Calls.mono (qcmp_is HV.out (lq HQ.out x_6.out) (lq HR.out z_6.out) (by omega) (by omega) (by omega) (by omega)) ?_
  rintro e w7 ⟨rfl, hb⟩
  have hB := hb
  have x_7 := Lib.hid (x_6.out.below hB)
  have y_7 := Lib.hid (y_6.out.below hB)
  have z_7 := Lib.hid (z_6.out.below hB)
  have Ka_7 := Lib.hid (Ka_6.out.below hB)
  have Kb_7 := Lib.hid (Kb_6.out.below hB)
  have Kc_7 := Lib.hid (Kc_6.out.below hB)
  have HB_7 := Lib.hid (below_trans HB_6.out hB)
  have hs_7 : w.heap.size ≤ w7.heap.size := HB_7.out.size
  have hz_7 : w6.heap.size + 0 ≤ w7.heap.size := (by have h := hb.size; (try simp at h); omega)
  clear hB hb x_6 y_6 z_6 Ka_6 Kb_6 Kc_6 HB_6 p80 p81 p82 p83 l8 p90 p91 p92 p93 l9
  go_wp2
  obtain ⟨p100, p101, p102, p103, l10⟩ := Ka_7.out.use4
  obtain ⟨p110, p111, p112, p113, l11⟩ := Kb_7.out.use4
  have tok0 : True := trivial
  have tok1 : True := trivial
  have tok2 : True := trivial
  have tok3 : True := trivial
  have tok4 : True := trivial
  have tok5 : True := trivial
  have tok6 : True := trivial
  go_region_held3 (fun w' => w'.cell? ⟨w.heap.size, 0, none⟩ = some (.bool b00) ∧ w'.cell? ⟨w.heap.size, 1, none⟩ = some (.slice a00 n00 c00) ∧ w'.cell? ⟨w.heap.size, 2, none⟩ = some (.bool e00) ∧ w'.cell? ⟨w.heap.size, 3, none⟩ = some (.slice g00 m00 k00) ∧ w'.cell? ⟨w.heap.size + 1, 0, none⟩ = some (.bool b01) ∧ w'.cell? ⟨w.heap.size + 1, 1, none⟩ = some (.slice a01 n01 c01) ∧ w'.cell? ⟨w.heap.size + 1, 2, none⟩ = some (.bool e01) ∧ w'.cell? ⟨w.heap.size + 1, 3, none⟩ = some (.slice g01 m01 k01)) (first | (refine ⟨?_, ?_, ?_, ?_, ?_, ?_, ?_, ?_⟩ <;> (first | with_reducible assumption | ((with_reducible refine Eq.trans (cell_drew _ _) ?_); with_reducible assumption) | ((rw [cell_far4 _ _ _ _ _ _ _ _ (by omega)]); with_reducible assumption) | ((repeat rw [cell_far2 _ _ _ _ _ _ (by omega)]); with_reducible assumption) | go_keep)) | trivial | go_keep)
    (first
      | (go_at_call 25; have _t := tok0; clear _t tok0; ((with_reducible refine Calls.mono (q_sub (lq HQ.out (by first | exact x_7.out | exact x_7.out.drew_ | exact x_7.out.alloc_ _ | exact (x_7.out.alloc_ _).drew_)) (lq HP.out (by first | exact y_7.out | exact y_7.out.drew_ | exact y_7.out.alloc_ _ | exact (y_7.out.alloc_ _).drew_)) (by omega) (by omega) (by omega) (by omega)) ?_)); rintro e w8 ⟨v, rfl, h, hb⟩; have hk := h; obtain ⟨b8, A8, n8, c8, d8, B8, m8, k8, rfl, -, -, -, -, -⟩ := h.form; clear h; have hB := (show Below w7.heap.size w7 w8 from by first | exact hb | exact bundrew hb | exact bun hb | exact bundrew (bun hb) | exact bun (bundrew hb)); have x_8 := Lib.hid (x_7.out.below hB); have y_8 := Lib.hid (y_7.out.below hB); have z_8 := Lib.hid (z_7.out.below hB); have Ka_8 := Lib.hid (Ka_7.out.below hB); have Kb_8 := Lib.hid (Kb_7.out.below hB); have Kc_8 := Lib.hid (Kc_7.out.below hB); have d_8 := Lib.hid (hk); have HB_8 := Lib.hid (below_trans HB_7.out hB); have hs_8 : w.heap.size ≤ w8.heap.size := HB_8.out.size; have hz_8 : w7.heap.size + 0 ≤ w8.heap.size := (by have h := hb.size; (try simp at h); omega); clear hB hb x_7 y_7 z_7 Ka_7 Kb_7 Kc_7 HB_7 p100 p101 p102 p103 l10 p110 p111 p112 p113 l11; obtain ⟨p120, p121, p122, p123, l12⟩ := Ka_8.out.use4; obtain ⟨p130, p131, p132, p133, l13⟩ := Kb_8.out.use4)
      | (go_at_call 38; have _t := tok1; clear _t tok1; ((with_reducible refine Calls.mono (rzero_any _) ?_)); rintro e w9 ⟨v, rfl, h, hb⟩; have hk := h; obtain ⟨b9, A9, n9, c9, d9, B9, m9, k9, rfl, -, -, -, -, -⟩ := h.form; clear h; have hB := (show Below w8.heap.size w8 w9 from by first | exact hb | exact bundrew hb | exact bun hb | exact bundrew (bun hb) | exact bun (bundrew hb)); have x_9 := Lib.hid (x_8.out.below hB); have y_9 := Lib.hid (y_8.out.below hB); have z_9 := Lib.hid (z_8.out.below hB); have d_9 := Lib.hid (d_8.out.below hB); have Ka_9 := Lib.hid (Ka_8.out.below hB); have Kb_9 := Lib.hid (Kb_8.out.below hB); have Kc_9 := Lib.hid (Kc_8.out.below hB); have o_9 := Lib.hid (hk); have HB_9 := Lib.hid (below_trans HB_8.out hB); have hs_9 : w.heap.size ≤ w9.heap.size := HB_9.out.size; have hz_9 : w8.heap.size + 0 ≤ w9.heap.size := (by have h := hb.size; (try simp at h); omega); clear hB hb x_8 y_8 z_8 d_8 Ka_8 Kb_8 Kc_8 HB_8 p120 p121 p122 p123 l12 p130 p131 p132 p133 l13; obtain ⟨p140, p141, p142, p143, l14⟩ := Ka_9.out.use4; obtain ⟨p150, p151, p152, p153, l15⟩ := Kb_9.out.use4)
      | (go_at_call 21; have _t := tok2; clear _t tok2; ((with_reducible refine Calls.mono (qcmp_is HS1.out (irq BS.out (by first | exact d_9.out | exact d_9.out.drew_ | exact d_9.out.alloc_ _ | exact (d_9.out.alloc_ _).drew_)) (irq BZ.out (by first | exact o_9.out | exact o_9.out.drew_ | exact o_9.out.alloc_ _ | exact (o_9.out.alloc_ _).drew_)) (by omega) (by omega) (by omega) (by omega)) ?_)); rintro e w10 ⟨rfl, hb⟩; have hB := (show Below w9.heap.size w9 w10 from by first | exact hb | exact bundrew hb | exact bun hb | exact bundrew (bun hb) | exact bun (bundrew hb)); have x_10 := Lib.hid (x_9.out.below hB); have y_10 := Lib.hid (y_9.out.below hB); have z_10 := Lib.hid (z_9.out.below hB); have Ka_10 := Lib.hid (Ka_9.out.below hB); have Kb_10 := Lib.hid (Kb_9.out.below hB); have Kc_10 := Lib.hid (Kc_9.out.below hB); have HB_10 := Lib.hid (below_trans HB_9.out hB); have hs_10 : w.heap.size ≤ w10.heap.size := HB_10.out.size; have hz_10 : w9.heap.size + 0 ≤ w10.heap.size := (by have h := hb.size; (try simp at h); omega); clear hB hb x_9 y_9 z_9 d_9 o_9 Ka_9 Kb_9 Kc_9 HB_9 p140 p141 p142 p143 l14 p150 p151 p152 p153 l15; obtain ⟨p160, p161, p162, p163, l16⟩ := Ka_10.out.use4; obtain ⟨p170, p171, p172, p173, l17⟩ := Kb_10.out.use4)
      | (go_at_call 21; have _t := tok3; clear _t tok3; ((with_reducible refine Calls.mono (qcmp_is HS2.out (lq HP.out (by first | exact y_10.out | exact y_10.out.drew_ | exact y_10.out.alloc_ _ | exact (y_10.out.alloc_ _).drew_)) (lq HQ.out (by first | exact x_10.out | exact x_10.out.drew_ | exact x_10.out.alloc_ _ | exact (x_10.out.alloc_ _).drew_)) (by omega) (by omega) (by omega) (by omega)) ?_)); rintro e w11 ⟨rfl, hb⟩; have hB := (show Below w10.heap.size w10 w11 from by first | exact hb | exact bundrew hb | exact bun hb | exact bundrew (bun hb) | exact bun (bundrew hb)); have x_11 := Lib.hid (x_10.out.below hB); have y_11 := Lib.hid (y_10.out.below hB); have z_11 := Lib.hid (z_10.out.below hB); have Ka_11 := Lib.hid (Ka_10.out.below hB); have Kb_11 := Lib.hid (Kb_10.out.below hB); have Kc_11 := Lib.hid (Kc_10.out.below hB); have HB_11 := Lib.hid (below_trans HB_10.out hB); have hs_11 : w.heap.size ≤ w11.heap.size := HB_11.out.size; have hz_11 : w10.heap.size + 0 ≤ w11.heap.size := (by have h := hb.size; (try simp at h); omega); clear hB hb x_10 y_10 z_10 Ka_10 Kb_10 Kc_10 HB_10 p160 p161 p162 p163 l16 p170 p171 p172 p173 l17; obtain ⟨p180, p181, p182, p183, l18⟩ := Ka_11.out.use4; obtain ⟨p190, p191, p192, p193, l19⟩ := Kb_11.out.use4)
      | (go_at_call 19; have _t := tok4; clear _t tok4; ((with_reducible refine Calls.mono (q_plain (lq HQ.out (by first | exact x_11.out | exact x_11.out.drew_ | exact x_11.out.alloc_ _ | exact (x_11.out.alloc_ _).drew_)) (by omega) (by omega)) ?_)); rintro e w12 ⟨v, rfl, h, hb⟩; have hk := h; obtain ⟨b12, A12, n12, c12, d12, B12, m12, k12, rfl, -, -, -, -, -⟩ := h.form; clear h; have hB := (show Below w11.heap.size w11 w12 from by first | exact hb | exact bundrew hb | exact bun hb | exact bundrew (bun hb) | exact bun (bundrew hb)); have x_12 := Lib.hid (x_11.out.below hB); have y_12 := Lib.hid (y_11.out.below hB); have z_12 := Lib.hid (z_11.out.below hB); have Ka_12 := Lib.hid (Ka_11.out.below hB); have Kb_12 := Lib.hid (Kb_11.out.below hB); have Kc_12 := Lib.hid (Kc_11.out.below hB); have d_12 := Lib.hid (hk); have HB_12 := Lib.hid (below_trans HB_11.out hB); have hs_12 : w.heap.size ≤ w12.heap.size := HB_12.out.size; have hz_12 : w11.heap.size + 0 ≤ w12.heap.size := (by have h := hb.size; (try simp at h); omega); clear hB hb x_11 y_11 z_11 Ka_11 Kb_11 Kc_11 HB_11 p180 p181 p182 p183 l18 p190 p191 p192 p193 l19; obtain ⟨p200, p201, p202, p203, l20⟩ := Ka_12.out.use4; obtain ⟨p210, p211, p212, p213, l21⟩ := Kb_12.out.use4)
      | (go_at_call 19; have _t := tok5; clear _t tok5; ((with_reducible refine Calls.mono (q_plain (lq HP.out (by first | exact y_12.out | exact y_12.out.drew_ | exact y_12.out.alloc_ _ | exact (y_12.out.alloc_ _).drew_)) (by omega) (by omega)) ?_)); rintro e w13 ⟨v, rfl, h, hb⟩; have hk := h; obtain ⟨b13, A13, n13, c13, d13, B13, m13, k13, rfl, -, -, -, -, -⟩ := h.form; clear h; have hB := (show Below w12.heap.size w12 w13 from by first | exact hb | exact bundrew hb | exact bun hb | exact bundrew (bun hb) | exact bun (bundrew hb)); have x_13 := Lib.hid (x_12.out.below hB); have y_13 := Lib.hid (y_12.out.below hB); have z_13 := Lib.hid (z_12.out.below hB); have d_13 := Lib.hid (d_12.out.below hB); have Ka_13 := Lib.hid (Ka_12.out.below hB); have Kb_13 := Lib.hid (Kb_12.out.below hB); have Kc_13 := Lib.hid (Kc_12.out.below hB); have o_13 := Lib.hid (hk); have HB_13 := Lib.hid (below_trans HB_12.out hB); have hs_13 : w.heap.size ≤ w13.heap.size := HB_13.out.size; have hz_13 : w12.heap.size + 0 ≤ w13.heap.size := (by have h := hb.size; (try simp at h); omega); clear hB hb x_12 y_12 z_12 d_12 Ka_12 Kb_12 Kc_12 HB_12 p200 p201 p202 p203 l20 p210 p211 p212 p213 l21; obtain ⟨p220, p221, p222, p223, l22⟩ := Ka_13.out.use4; obtain ⟨p230, p231, p232, p233, l23⟩ := Kb_13.out.use4)
      | (go_at_call 21; have _t := tok6; clear _t tok6; ((with_reducible refine Calls.mono (qcmp_is HS.out (irq BX.out (by first | exact d_13.out | exact d_13.out.drew_ | exact d_13.out.alloc_ _ | exact (d_13.out.alloc_ _).drew_)) (irq BY.out (by first | exact o_13.out | exact o_13.out.drew_ | exact o_13.out.alloc_ _ | exact (o_13.out.alloc_ _).drew_)) (by omega) (by omega) (by omega) (by omega)) ?_)); rintro e w14 ⟨rfl, hb⟩; have hB := (show Below w13.heap.size w13 w14 from by first | exact hb | exact bundrew hb | exact bun hb | exact bundrew (bun hb) | exact bun (bundrew hb)); have x_14 := Lib.hid (x_13.out.below hB); have y_14 := Lib.hid (y_13.out.below hB); have z_14 := Lib.hid (z_13.out.below hB); have Ka_14 := Lib.hid (Ka_13.out.below hB); have Kb_14 := Lib.hid (Kb_13.out.below hB); have Kc_14 := Lib.hid (Kc_13.out.below hB); have HB_14 := Lib.hid (below_trans HB_13.out hB); have hs_14 : w.heap.size ≤ w14.heap.size := HB_14.out.size; have hz_14 : w13.heap.size + 0 ≤ w14.heap.size := (by have h := hb.size; (try simp at h); omega); clear hB hb x_13 y_13 z_13 d_13 o_13 Ka_13 Kb_13 Kc_13 HB_13 p220 p221 p222 p223 l22 p230 p231 p232 p233 l23; obtain ⟨p240, p241, p242, p243, l24⟩ := Ka_14.out.use4; obtain ⟨p250, p251, p252, p253, l25⟩ := Kb_14.out.use4))
  rcases HU3.out with rfl | rfl | rfl <;> rcases HV3.out with rfl | rfl | rfl
  all_goals first | (exfalso; have := HT1.out; have := HT2.out; omega) | skip
  all_goals
    go_wp2
    obtain ⟨p260, p261, p262, p263, l26⟩ := Ka_14.out.use4
    obtain ⟨p270, p271, p272, p273, l27⟩ := Kb_14.out.use4
    have tok0 : True := trivial
    have tok1 : True := trivial
    have tok2 : True := trivial
    go_region_held3 (fun w' => w'.cell? ⟨w.heap.size, 0, none⟩ = some (.bool b00) ∧ w'.cell? ⟨w.heap.size, 1, none⟩ = some (.slice a00 n00 c00) ∧ w'.cell? ⟨w.heap.size, 2, none⟩ = some (.bool e00) ∧ w'.cell? ⟨w.heap.size, 3, none⟩ = some (.slice g00 m00 k00) ∧ w'.cell? ⟨w.heap.size + 1, 0, none⟩ = some (.bool b01) ∧ w'.cell? ⟨w.heap.size + 1, 1, none⟩ = some (.slice a01 n01 c01) ∧ w'.cell? ⟨w.heap.size + 1, 2, none⟩ = some (.bool e01) ∧ w'.cell? ⟨w.heap.size + 1, 3, none⟩ = some (.slice g01 m01 k01)) (first | (refine ⟨?_, ?_, ?_, ?_, ?_, ?_, ?_, ?_⟩ <;> (first | with_reducible assumption | ((with_reducible refine Eq.trans (cell_drew _ _) ?_); with_reducible assumption) | ((rw [cell_far4 _ _ _ _ _ _ _ _ (by omega)]); with_reducible assumption) | ((repeat rw [cell_far2 _ _ _ _ _ _ (by omega)]); with_reducible assumption) | go_keep)) | trivial | go_keep)
      (first
        | (go_at_call 19; have _t := tok0; clear _t tok0; ((with_reducible refine Calls.mono (q_plain (lq HQ.out (by first | exact x_14.out | exact x_14.out.drew_ | exact x_14.out.alloc_ _ | exact (x_14.out.alloc_ _).drew_)) (by omega) (by omega)) ?_)); rintro e w15 ⟨v, rfl, h, hb⟩; have hk := h; obtain ⟨b15, A15, n15, c15, d15, B15, m15, k15, rfl, -, -, -, -, -⟩ := h.form; clear h; have hB := (show Below w14.heap.size w14 w15 from by first | exact hb | exact bundrew hb | exact bun hb | exact bundrew (bun hb) | exact bun (bundrew hb)); have x_15 := Lib.hid (x_14.out.below hB); have y_15 := Lib.hid (y_14.out.below hB); have z_15 := Lib.hid (z_14.out.below hB); have Ka_15 := Lib.hid (Ka_14.out.below hB); have Kb_15 := Lib.hid (Kb_14.out.below hB); have Kc_15 := Lib.hid (Kc_14.out.below hB); have d_15 := Lib.hid (hk); have HB_15 := Lib.hid (below_trans HB_14.out hB); have hs_15 : w.heap.size ≤ w15.heap.size := HB_15.out.size; have hz_15 : w14.heap.size + 0 ≤ w15.heap.size := (by have h := hb.size; (try simp at h); omega); clear hB hb x_14 y_14 z_14 Ka_14 Kb_14 Kc_14 HB_14 p240 p241 p242 p243 l24 p250 p251 p252 p253 l25 p260 p261 p262 p263 l26 p270 p271 p272 p273 l27; obtain ⟨p280, p281, p282, p283, l28⟩ := Ka_15.out.use4; obtain ⟨p290, p291, p292, p293, l29⟩ := Kb_15.out.use4)
        | (go_at_call 19; have _t := tok1; clear _t tok1; ((with_reducible refine Calls.mono (q_plain (lq HP.out (by first | exact y_15.out | exact y_15.out.drew_ | exact y_15.out.alloc_ _ | exact (y_15.out.alloc_ _).drew_)) (by omega) (by omega)) ?_)); rintro e w16 ⟨v, rfl, h, hb⟩; have hk := h; obtain ⟨b16, A16, n16, c16, d16, B16, m16, k16, rfl, -, -, -, -, -⟩ := h.form; clear h; have hB := (show Below w15.heap.size w15 w16 from by first | exact hb | exact bundrew hb | exact bun hb | exact bundrew (bun hb) | exact bun (bundrew hb)); have x_16 := Lib.hid (x_15.out.below hB); have y_16 := Lib.hid (y_15.out.below hB); have z_16 := Lib.hid (z_15.out.below hB); have d_16 := Lib.hid (d_15.out.below hB); have Ka_16 := Lib.hid (Ka_15.out.below hB); have Kb_16 := Lib.hid (Kb_15.out.below hB); have Kc_16 := Lib.hid (Kc_15.out.below hB); have o_16 := Lib.hid (hk); have HB_16 := Lib.hid (below_trans HB_15.out hB); have hs_16 : w.heap.size ≤ w16.heap.size := HB_16.out.size; have hz_16 : w15.heap.size + 0 ≤ w16.heap.size := (by have h := hb.size; (try simp at h); omega); clear hB hb x_15 y_15 z_15 d_15 Ka_15 Kb_15 Kc_15 HB_15 p280 p281 p282 p283 l28 p290 p291 p292 p293 l29; obtain ⟨p300, p301, p302, p303, l30⟩ := Ka_16.out.use4; obtain ⟨p310, p311, p312, p313, l31⟩ := Kb_16.out.use4)
        | (go_at_call 18; have _t := tok2; clear _t tok2; ((with_reducible refine Calls.mono (rat_same_is HE.out (by first | exact d_16.out | exact d_16.out.drew_ | exact d_16.out.alloc_ _ | exact (d_16.out.alloc_ _).drew_) (by first | exact o_16.out | exact o_16.out.drew_ | exact o_16.out.alloc_ _ | exact (o_16.out.alloc_ _).drew_) BX.out BY.out (by omega)) ?_)); rintro e w17 ⟨rfl, hb⟩; have hB := (show Below w16.heap.size w16 w17 from by first | exact hb | exact bundrew hb | exact bun hb | exact bundrew (bun hb) | exact bun (bundrew hb)); have x_17 := Lib.hid (x_16.out.below hB); have y_17 := Lib.hid (y_16.out.below hB); have z_17 := Lib.hid (z_16.out.below hB); have Ka_17 := Lib.hid (Ka_16.out.below hB); have Kb_17 := Lib.hid (Kb_16.out.below hB); have Kc_17 := Lib.hid (Kc_16.out.below hB); have HB_17 := Lib.hid (below_trans HB_16.out hB); have hs_17 : w.heap.size ≤ w17.heap.size := HB_17.out.size; have hz_17 : w16.heap.size + 0 ≤ w17.heap.size := (by have h := hb.size; (try simp at h); omega); clear hB hb x_16 y_16 z_16 d_16 o_16 Ka_16 Kb_16 Kc_16 HB_16 p300 p301 p302 p303 l30 p310 p311 p312 p313 l31; obtain ⟨p320, p321, p322, p323, l32⟩ := Ka_17.out.use4; obtain ⟨p330, p331, p332, p333, l33⟩ := Kb_17.out.use4))
    go_wp2
    go_ret
    exact ⟨by simp, HB_17.out⟩

set_option maxRecDepth 100000 in
set_option maxHeartbeats 32000000 in
theorem order_e (b00 : Bool) (a00 : Option Addr) (n00 c00 : Nat) (e00 : Bool) (g00 : Option Addr) (m00 k00 : Nat) (b01 : Bool) (a01 : Option Addr) (n01 c01 : Nat) (e01 : Bool) (g01 : Option Addr) (m01 k01 : Nat) (b02 : Bool) (a02 : Option Addr) (n02 c02 : Nat) (e02 : Bool) (g02 : Option Addr) (m02 k02 : Nat) (w : World) (X Y X' Y' X'' Y'' : Int) (hx : LimR 4 w (.agg #[.bool b00, .slice a00 n00 c00, .bool e00, .slice g00 m00 k00]) X Y) (hy : LimR 4 w (.agg #[.bool b01, .slice a01 n01 c01, .bool e01, .slice g01 m01 k01]) X' Y') (hz : LimR 4 w (.agg #[.bool b02, .slice a02 n02 c02, .bool e02, .slice g02 m02 k02]) X'' Y'') (h0 : (decide (n00 ≤ 4) && decide (m00 ≤ 4)) = true) (h1 : (decide (n01 ≤ 4) && decide (m01 ≤ 4)) = true) (h2 : (decide (n02 ≤ 4) && decide (m02 ≤ 4)) = true) (hs : cmpQ (ratOf X Y) (ratOf X' Y') = 0) :
    Calls Tryz.prog 10 #[(.agg #[.bool b00, .slice a00 n00 c00, .bool e00, .slice g00 m00 k00]), (.agg #[.bool b01, .slice a01 n01 c01, .bool e01, .slice g01 m01 k01]), (.agg #[.bool b02, .slice a02 n02 c02, .bool e02, .slice g02 m02 k02])] w fun e w' => e = .returned (.bool true) ∧ Below w.heap.size w w' := by
  have F0 := Lib.hid h0
  have F1 := Lib.hid h1
  have F2 := Lib.hid h2
  obtain ⟨x, hq⟩ : ∃ q, q = ratOf X Y := ⟨_, rfl⟩
  obtain ⟨y, hp⟩ : ∃ q, q = ratOf X' Y' := ⟨_, rfl⟩
  obtain ⟨z, hr⟩ : ∃ q, q = ratOf X'' Y'' := ⟨_, rfl⟩
  rw [← hq, ← hp] at hs
  have BX := Lib.hid ((lq hq hx).bq (by omega))
  have BY := Lib.hid ((lq hp hy).bq (by omega))
  have BZ : Hid (BQ 1 (0 : Rat)) := bq_chk (by decide)
  have BS := Lib.hid (bq_sub BX.out BY.out)
  obtain ⟨u, hu⟩ : ∃ u, cmpQ y z = u := ⟨_, rfl⟩
  obtain ⟨v, hv⟩ : ∃ u, cmpQ x z = u := ⟨_, rfl⟩
  have T1 := @cmpQ_le x y z
  have T2 := @cmpQ_ge x y z
  have hu3 := cmpQ_3 y z
  have hv3 := cmpQ_3 x z
  rw [hs, hu, hv] at T1 T2
  rw [hu] at hu3
  rw [hv] at hv3
  have HS := Lib.hid hs
  have HU := Lib.hid hu
  have HV := Lib.hid hv
  have HS1 : Hid (cmpQ (x - y) 0 = 0) := by show _ = _; rw [cmpQ_sub]; exact hs
  obtain ⟨r0, hr0⟩ : ∃ r, cmpQ y x = r := ⟨_, rfl⟩
  have hr1 : r0 = 0 := by rw [← hr0, cmpQ_swap, hs]; try rfl
  have hw1 : IntKind.i64.wrap (0 - r0) = 0 := by rw [hr1]; decide
  have hw2 : IntKind.i64.wrap (-r0) = 0 := by rw [hr1]; decide
  have HS2 := Lib.hid hr0
  clear hr0 hr1
  have HE : Hid (decide (x = y) = true) := by
    show _ = _
    have := cmpQ_eq x y
    rw [hs] at this
    exact decide_eq_true (this.1 rfl)
  have HT1 := Lib.hid T1
  have HT2 := Lib.hid T2
  have HU3 := Lib.hid hu3
  have HV3 := Lib.hid hv3
  have HQ := Lib.hid hq
  have HP := Lib.hid hp
  have HR := Lib.hid hr
  have x_0 := Lib.hid hx
  have y_0 := Lib.hid hy
  have z_0 := Lib.hid hz
  clear h0 h1 h2 hq hp hr hs hu hv hx hy hz T1 T2 hu3 hv3
  go_enter Tryz.func10, Tryz.ntmps10
  go_wp2_with fail
  refine Calls.mono (awake3 _) ?_
  rintro e w1 ⟨rfl, hb⟩
  have hB := bun (bun (bun (hb)))
  have x_1 := Lib.hid (x_0.out.below hB)
  have y_1 := Lib.hid (y_0.out.below hB)
  have z_1 := Lib.hid (z_0.out.below hB)
  have Ka_1 := Lib.hid (show Blk w1 (w.heap.size) 26 #[.bool b00, .slice a00 n00 c00, .bool e00, .slice g00 m00 k00] from (((Blk.new _ _ (by simp) _ _).alloc_ _).alloc_ _).below hb)
  have Kb_1 := Lib.hid (show Blk w1 (w.heap.size + 1) 26 #[.bool b01, .slice a01 n01 c01, .bool e01, .slice g01 m01 k01] from ((Blk.new _ _ (by simp) _ _).alloc_ _).below hb)
  have Kc_1 := Lib.hid (show Blk w1 (w.heap.size + 1 + 1) 26 #[.bool b02, .slice a02 n02 c02, .bool e02, .slice g02 m02 k02] from (Blk.new _ _ (by simp) _ _).below hb)
  have HB_1 := Lib.hid (hB)
  have hs_1 : w.heap.size ≤ w1.heap.size := HB_1.out.size
  have hz_1 : w.heap.size + 3 ≤ w1.heap.size := (by have h := hb.size; (try simp at h); omega)
  clear hB hb x_0 y_0 z_0
  obtain ⟨p10, p11, p12, p13, l1⟩ := Ka_1.out.use4
  go_wp2_with fail
  refine Calls.mono (few_is _ _ _ _ _ _ _ _ _ true F0.out) ?_
  rintro e w2 ⟨rfl, hb⟩
  have hB := hb
  have x_2 := Lib.hid (x_1.out.below hB)
  have y_2 := Lib.hid (y_1.out.below hB)
  have z_2 := Lib.hid (z_1.out.below hB)
  have Ka_2 := Lib.hid (Ka_1.out.below hB)
  have Kb_2 := Lib.hid (Kb_1.out.below hB)
  have Kc_2 := Lib.hid (Kc_1.out.below hB)
  have HB_2 := Lib.hid (below_trans HB_1.out hB)
  have hs_2 : w.heap.size ≤ w2.heap.size := HB_2.out.size
  have hz_2 : w1.heap.size + 0 ≤ w2.heap.size := (by have h := hb.size; (try simp at h); omega)
  clear hB hb x_1 y_1 z_1 Ka_1 Kb_1 Kc_1 HB_1 p10 p11 p12 p13 l1
  obtain ⟨p20, p21, p22, p23, l2⟩ := Kb_2.out.use4
  go_wp2_with fail
  refine Calls.mono (few_is _ _ _ _ _ _ _ _ _ true F1.out) ?_
  rintro e w3 ⟨rfl, hb⟩
  have hB := hb
  have x_3 := Lib.hid (x_2.out.below hB)
  have y_3 := Lib.hid (y_2.out.below hB)
  have z_3 := Lib.hid (z_2.out.below hB)
  have Ka_3 := Lib.hid (Ka_2.out.below hB)
  have Kb_3 := Lib.hid (Kb_2.out.below hB)
  have Kc_3 := Lib.hid (Kc_2.out.below hB)
  have HB_3 := Lib.hid (below_trans HB_2.out hB)
  have hs_3 : w.heap.size ≤ w3.heap.size := HB_3.out.size
  have hz_3 : w2.heap.size + 0 ≤ w3.heap.size := (by have h := hb.size; (try simp at h); omega)
  clear hB hb x_2 y_2 z_2 Ka_2 Kb_2 Kc_2 HB_2 p20 p21 p22 p23 l2
  obtain ⟨p30, p31, p32, p33, l3⟩ := Kc_3.out.use4
  go_wp2_with fail
  refine Calls.mono (few_is _ _ _ _ _ _ _ _ _ true F2.out) ?_
  rintro e w4 ⟨rfl, hb⟩
  have hB := hb
  have x_4 := Lib.hid (x_3.out.below hB)
  have y_4 := Lib.hid (y_3.out.below hB)
  have z_4 := Lib.hid (z_3.out.below hB)
  have Ka_4 := Lib.hid (Ka_3.out.below hB)
  have Kb_4 := Lib.hid (Kb_3.out.below hB)
  have Kc_4 := Lib.hid (Kc_3.out.below hB)
  have HB_4 := Lib.hid (below_trans HB_3.out hB)
  have hs_4 : w.heap.size ≤ w4.heap.size := HB_4.out.size
  have hz_4 : w3.heap.size + 0 ≤ w4.heap.size := (by have h := hb.size; (try simp at h); omega)
  clear hB hb x_3 y_3 z_3 Ka_3 Kb_3 Kc_3 HB_3 p30 p31 p32 p33 l3
  obtain ⟨p40, p41, p42, p43, l4⟩ := Ka_4.out.use4
  obtain ⟨p50, p51, p52, p53, l5⟩ := Kb_4.out.use4
  go_wp2_with fail
  refine Calls.mono (qcmp_is HS.out (lq HQ.out x_4.out) (lq HP.out y_4.out) (by omega) (by omega) (by omega) (by omega)) ?_
  rintro e w5 ⟨rfl, hb⟩
  have hB := hb
  have x_5 := Lib.hid (x_4.out.below hB)
  have y_5 := Lib.hid (y_4.out.below hB)
  have z_5 := Lib.hid (z_4.out.below hB)
  have Ka_5 := Lib.hid (Ka_4.out.below hB)
  have Kb_5 := Lib.hid (Kb_4.out.below hB)
  have Kc_5 := Lib.hid (Kc_4.out.below hB)
  have HB_5 := Lib.hid (below_trans HB_4.out hB)
  have hs_5 : w.heap.size ≤ w5.heap.size := HB_5.out.size
  have hz_5 : w4.heap.size + 0 ≤ w5.heap.size := (by have h := hb.size; (try simp at h); omega)
  clear hB hb x_4 y_4 z_4 Ka_4 Kb_4 Kc_4 HB_4 p40 p41 p42 p43 l4 p50 p51 p52 p53 l5
  obtain ⟨p60, p61, p62, p63, l6⟩ := Kb_5.out.use4
  obtain ⟨p70, p71, p72, p73, l7⟩ := Kc_5.out.use4
  go_wp2_with fail
  refine Calls.mono (qcmp_is HU.out (lq HP.out y_5.out) (lq HR.out z_5.out) (by omega) (by omega) (by omega) (by omega)) ?_
  rintro e w6 ⟨rfl, hb⟩
  have hB := hb
  have x_6 := Lib.hid (x_5.out.below hB)
  have y_6 := Lib.hid (y_5.out.below hB)
  have z_6 := Lib.hid (z_5.out.below hB)
  have Ka_6 := Lib.hid (Ka_5.out.below hB)
  have Kb_6 := Lib.hid (Kb_5.out.below hB)
  have Kc_6 := Lib.hid (Kc_5.out.below hB)
  have HB_6 := Lib.hid (below_trans HB_5.out hB)
  have hs_6 : w.heap.size ≤ w6.heap.size := HB_6.out.size
  have hz_6 : w5.heap.size + 0 ≤ w6.heap.size := (by have h := hb.size; (try simp at h); omega)
  clear hB hb x_5 y_5 z_5 Ka_5 Kb_5 Kc_5 HB_5 p60 p61 p62 p63 l6 p70 p71 p72 p73 l7
  obtain ⟨p80, p81, p82, p83, l8⟩ := Ka_6.out.use4
  obtain ⟨p90, p91, p92, p93, l9⟩ := Kc_6.out.use4
  go_wp2_with fail
  refine Calls.mono (qcmp_is HV.out (lq HQ.out x_6.out) (lq HR.out z_6.out) (by omega) (by omega) (by omega) (by omega)) ?_
  rintro e w7 ⟨rfl, hb⟩
  have hB := hb
  have x_7 := Lib.hid (x_6.out.below hB)
  have y_7 := Lib.hid (y_6.out.below hB)
  have z_7 := Lib.hid (z_6.out.below hB)
  have Ka_7 := Lib.hid (Ka_6.out.below hB)
  have Kb_7 := Lib.hid (Kb_6.out.below hB)
  have Kc_7 := Lib.hid (Kc_6.out.below hB)
  have HB_7 := Lib.hid (below_trans HB_6.out hB)
  have hs_7 : w.heap.size ≤ w7.heap.size := HB_7.out.size
  have hz_7 : w6.heap.size + 0 ≤ w7.heap.size := (by have h := hb.size; (try simp at h); omega)
  clear hB hb x_6 y_6 z_6 Ka_6 Kb_6 Kc_6 HB_6 p80 p81 p82 p83 l8 p90 p91 p92 p93 l9
  go_wp2
  obtain ⟨p100, p101, p102, p103, l10⟩ := Ka_7.out.use4
  obtain ⟨p110, p111, p112, p113, l11⟩ := Kb_7.out.use4
  have tok0 : True := trivial
  have tok1 : True := trivial
  have tok2 : True := trivial
  have tok3 : True := trivial
  have tok4 : True := trivial
  have tok5 : True := trivial
  have tok6 : True := trivial
  go_region_held3 (fun w' => w'.cell? ⟨w.heap.size, 0, none⟩ = some (.bool b00) ∧ w'.cell? ⟨w.heap.size, 1, none⟩ = some (.slice a00 n00 c00) ∧ w'.cell? ⟨w.heap.size, 2, none⟩ = some (.bool e00) ∧ w'.cell? ⟨w.heap.size, 3, none⟩ = some (.slice g00 m00 k00) ∧ w'.cell? ⟨w.heap.size + 1, 0, none⟩ = some (.bool b01) ∧ w'.cell? ⟨w.heap.size + 1, 1, none⟩ = some (.slice a01 n01 c01) ∧ w'.cell? ⟨w.heap.size + 1, 2, none⟩ = some (.bool e01) ∧ w'.cell? ⟨w.heap.size + 1, 3, none⟩ = some (.slice g01 m01 k01)) (first | (refine ⟨?_, ?_, ?_, ?_, ?_, ?_, ?_, ?_⟩ <;> (first | with_reducible assumption | ((with_reducible refine Eq.trans (cell_drew _ _) ?_); with_reducible assumption) | ((rw [cell_far4 _ _ _ _ _ _ _ _ (by omega)]); with_reducible assumption) | ((repeat rw [cell_far2 _ _ _ _ _ _ (by omega)]); with_reducible assumption) | go_keep)) | trivial | go_keep)
    (first
      | (go_at_call 25; have _t := tok0; clear _t tok0; ((with_reducible refine Calls.mono (q_sub (lq HQ.out (by first | exact x_7.out | exact x_7.out.drew_ | exact x_7.out.alloc_ _ | exact (x_7.out.alloc_ _).drew_)) (lq HP.out (by first | exact y_7.out | exact y_7.out.drew_ | exact y_7.out.alloc_ _ | exact (y_7.out.alloc_ _).drew_)) (by omega) (by omega) (by omega) (by omega)) ?_)); rintro e w8 ⟨v, rfl, h, hb⟩; have hk := h; obtain ⟨b8, A8, n8, c8, d8, B8, m8, k8, rfl, -, -, -, -, -⟩ := h.form; clear h; have hB := (show Below w7.heap.size w7 w8 from by first | exact hb | exact bundrew hb | exact bun hb | exact bundrew (bun hb) | exact bun (bundrew hb)); have x_8 := Lib.hid (x_7.out.below hB); have y_8 := Lib.hid (y_7.out.below hB); have z_8 := Lib.hid (z_7.out.below hB); have Ka_8 := Lib.hid (Ka_7.out.below hB); have Kb_8 := Lib.hid (Kb_7.out.below hB); have Kc_8 := Lib.hid (Kc_7.out.below hB); have d_8 := Lib.hid (hk); have HB_8 := Lib.hid (below_trans HB_7.out hB); have hs_8 : w.heap.size ≤ w8.heap.size := HB_8.out.size; have hz_8 : w7.heap.size + 0 ≤ w8.heap.size := (by have h := hb.size; (try simp at h); omega); clear hB hb x_7 y_7 z_7 Ka_7 Kb_7 Kc_7 HB_7 p100 p101 p102 p103 l10 p110 p111 p112 p113 l11; obtain ⟨p120, p121, p122, p123, l12⟩ := Ka_8.out.use4; obtain ⟨p130, p131, p132, p133, l13⟩ := Kb_8.out.use4)
      | (go_at_call 38; have _t := tok1; clear _t tok1; ((with_reducible refine Calls.mono (rzero_any _) ?_)); rintro e w9 ⟨v, rfl, h, hb⟩; have hk := h; obtain ⟨b9, A9, n9, c9, d9, B9, m9, k9, rfl, -, -, -, -, -⟩ := h.form; clear h; have hB := (show Below w8.heap.size w8 w9 from by first | exact hb | exact bundrew hb | exact bun hb | exact bundrew (bun hb) | exact bun (bundrew hb)); have x_9 := Lib.hid (x_8.out.below hB); have y_9 := Lib.hid (y_8.out.below hB); have z_9 := Lib.hid (z_8.out.below hB); have d_9 := Lib.hid (d_8.out.below hB); have Ka_9 := Lib.hid (Ka_8.out.below hB); have Kb_9 := Lib.hid (Kb_8.out.below hB); have Kc_9 := Lib.hid (Kc_8.out.below hB); have o_9 := Lib.hid (hk); have HB_9 := Lib.hid (below_trans HB_8.out hB); have hs_9 : w.heap.size ≤ w9.heap.size := HB_9.out.size; have hz_9 : w8.heap.size + 0 ≤ w9.heap.size := (by have h := hb.size; (try simp at h); omega); clear hB hb x_8 y_8 z_8 d_8 Ka_8 Kb_8 Kc_8 HB_8 p120 p121 p122 p123 l12 p130 p131 p132 p133 l13; obtain ⟨p140, p141, p142, p143, l14⟩ := Ka_9.out.use4; obtain ⟨p150, p151, p152, p153, l15⟩ := Kb_9.out.use4)
      | (go_at_call 21; have _t := tok2; clear _t tok2; ((with_reducible refine Calls.mono (qcmp_is HS1.out (irq BS.out (by first | exact d_9.out | exact d_9.out.drew_ | exact d_9.out.alloc_ _ | exact (d_9.out.alloc_ _).drew_)) (irq BZ.out (by first | exact o_9.out | exact o_9.out.drew_ | exact o_9.out.alloc_ _ | exact (o_9.out.alloc_ _).drew_)) (by omega) (by omega) (by omega) (by omega)) ?_)); rintro e w10 ⟨rfl, hb⟩; have hB := (show Below w9.heap.size w9 w10 from by first | exact hb | exact bundrew hb | exact bun hb | exact bundrew (bun hb) | exact bun (bundrew hb)); have x_10 := Lib.hid (x_9.out.below hB); have y_10 := Lib.hid (y_9.out.below hB); have z_10 := Lib.hid (z_9.out.below hB); have Ka_10 := Lib.hid (Ka_9.out.below hB); have Kb_10 := Lib.hid (Kb_9.out.below hB); have Kc_10 := Lib.hid (Kc_9.out.below hB); have HB_10 := Lib.hid (below_trans HB_9.out hB); have hs_10 : w.heap.size ≤ w10.heap.size := HB_10.out.size; have hz_10 : w9.heap.size + 0 ≤ w10.heap.size := (by have h := hb.size; (try simp at h); omega); clear hB hb x_9 y_9 z_9 d_9 o_9 Ka_9 Kb_9 Kc_9 HB_9 p140 p141 p142 p143 l14 p150 p151 p152 p153 l15; obtain ⟨p160, p161, p162, p163, l16⟩ := Ka_10.out.use4; obtain ⟨p170, p171, p172, p173, l17⟩ := Kb_10.out.use4)
      | (go_at_call 21; have _t := tok3; clear _t tok3; ((with_reducible refine Calls.mono (qcmp_is HS2.out (lq HP.out (by first | exact y_10.out | exact y_10.out.drew_ | exact y_10.out.alloc_ _ | exact (y_10.out.alloc_ _).drew_)) (lq HQ.out (by first | exact x_10.out | exact x_10.out.drew_ | exact x_10.out.alloc_ _ | exact (x_10.out.alloc_ _).drew_)) (by omega) (by omega) (by omega) (by omega)) ?_)); rintro e w11 ⟨rfl, hb⟩; have hB := (show Below w10.heap.size w10 w11 from by first | exact hb | exact bundrew hb | exact bun hb | exact bundrew (bun hb) | exact bun (bundrew hb)); have x_11 := Lib.hid (x_10.out.below hB); have y_11 := Lib.hid (y_10.out.below hB); have z_11 := Lib.hid (z_10.out.below hB); have Ka_11 := Lib.hid (Ka_10.out.below hB); have Kb_11 := Lib.hid (Kb_10.out.below hB); have Kc_11 := Lib.hid (Kc_10.out.below hB); have HB_11 := Lib.hid (below_trans HB_10.out hB); have hs_11 : w.heap.size ≤ w11.heap.size := HB_11.out.size; have hz_11 : w10.heap.size + 0 ≤ w11.heap.size := (by have h := hb.size; (try simp at h); omega); clear hB hb x_10 y_10 z_10 Ka_10 Kb_10 Kc_10 HB_10 p160 p161 p162 p163 l16 p170 p171 p172 p173 l17; obtain ⟨p180, p181, p182, p183, l18⟩ := Ka_11.out.use4; obtain ⟨p190, p191, p192, p193, l19⟩ := Kb_11.out.use4)
      | (go_at_call 19; have _t := tok4; clear _t tok4; ((with_reducible refine Calls.mono (q_plain (lq HQ.out (by first | exact x_11.out | exact x_11.out.drew_ | exact x_11.out.alloc_ _ | exact (x_11.out.alloc_ _).drew_)) (by omega) (by omega)) ?_)); rintro e w12 ⟨v, rfl, h, hb⟩; have hk := h; obtain ⟨b12, A12, n12, c12, d12, B12, m12, k12, rfl, -, -, -, -, -⟩ := h.form; clear h; have hB := (show Below w11.heap.size w11 w12 from by first | exact hb | exact bundrew hb | exact bun hb | exact bundrew (bun hb) | exact bun (bundrew hb)); have x_12 := Lib.hid (x_11.out.below hB); have y_12 := Lib.hid (y_11.out.below hB); have z_12 := Lib.hid (z_11.out.below hB); have Ka_12 := Lib.hid (Ka_11.out.below hB); have Kb_12 := Lib.hid (Kb_11.out.below hB); have Kc_12 := Lib.hid (Kc_11.out.below hB); have d_12 := Lib.hid (hk); have HB_12 := Lib.hid (below_trans HB_11.out hB); have hs_12 : w.heap.size ≤ w12.heap.size := HB_12.out.size; have hz_12 : w11.heap.size + 0 ≤ w12.heap.size := (by have h := hb.size; (try simp at h); omega); clear hB hb x_11 y_11 z_11 Ka_11 Kb_11 Kc_11 HB_11 p180 p181 p182 p183 l18 p190 p191 p192 p193 l19; obtain ⟨p200, p201, p202, p203, l20⟩ := Ka_12.out.use4; obtain ⟨p210, p211, p212, p213, l21⟩ := Kb_12.out.use4)
      | (go_at_call 19; have _t := tok5; clear _t tok5; ((with_reducible refine Calls.mono (q_plain (lq HP.out (by first | exact y_12.out | exact y_12.out.drew_ | exact y_12.out.alloc_ _ | exact (y_12.out.alloc_ _).drew_)) (by omega) (by omega)) ?_)); rintro e w13 ⟨v, rfl, h, hb⟩; have hk := h; obtain ⟨b13, A13, n13, c13, d13, B13, m13, k13, rfl, -, -, -, -, -⟩ := h.form; clear h; have hB := (show Below w12.heap.size w12 w13 from by first | exact hb | exact bundrew hb | exact bun hb | exact bundrew (bun hb) | exact bun (bundrew hb)); have x_13 := Lib.hid (x_12.out.below hB); have y_13 := Lib.hid (y_12.out.below hB); have z_13 := Lib.hid (z_12.out.below hB); have d_13 := Lib.hid (d_12.out.below hB); have Ka_13 := Lib.hid (Ka_12.out.below hB); have Kb_13 := Lib.hid (Kb_12.out.below hB); have Kc_13 := Lib.hid (Kc_12.out.below hB); have o_13 := Lib.hid (hk); have HB_13 := Lib.hid (below_trans HB_12.out hB); have hs_13 : w.heap.size ≤ w13.heap.size := HB_13.out.size; have hz_13 : w12.heap.size + 0 ≤ w13.heap.size := (by have h := hb.size; (try simp at h); omega); clear hB hb x_12 y_12 z_12 d_12 Ka_12 Kb_12 Kc_12 HB_12 p200 p201 p202 p203 l20 p210 p211 p212 p213 l21; obtain ⟨p220, p221, p222, p223, l22⟩ := Ka_13.out.use4; obtain ⟨p230, p231, p232, p233, l23⟩ := Kb_13.out.use4)
      | (go_at_call 21; have _t := tok6; clear _t tok6; ((with_reducible refine Calls.mono (qcmp_is HS.out (irq BX.out (by first | exact d_13.out | exact d_13.out.drew_ | exact d_13.out.alloc_ _ | exact (d_13.out.alloc_ _).drew_)) (irq BY.out (by first | exact o_13.out | exact o_13.out.drew_ | exact o_13.out.alloc_ _ | exact (o_13.out.alloc_ _).drew_)) (by omega) (by omega) (by omega) (by omega)) ?_)); rintro e w14 ⟨rfl, hb⟩; have hB := (show Below w13.heap.size w13 w14 from by first | exact hb | exact bundrew hb | exact bun hb | exact bundrew (bun hb) | exact bun (bundrew hb)); have x_14 := Lib.hid (x_13.out.below hB); have y_14 := Lib.hid (y_13.out.below hB); have z_14 := Lib.hid (z_13.out.below hB); have Ka_14 := Lib.hid (Ka_13.out.below hB); have Kb_14 := Lib.hid (Kb_13.out.below hB); have Kc_14 := Lib.hid (Kc_13.out.below hB); have HB_14 := Lib.hid (below_trans HB_13.out hB); have hs_14 : w.heap.size ≤ w14.heap.size := HB_14.out.size; have hz_14 : w13.heap.size + 0 ≤ w14.heap.size := (by have h := hb.size; (try simp at h); omega); clear hB hb x_13 y_13 z_13 d_13 o_13 Ka_13 Kb_13 Kc_13 HB_13 p220 p221 p222 p223 l22 p230 p231 p232 p233 l23; obtain ⟨p240, p241, p242, p243, l24⟩ := Ka_14.out.use4; obtain ⟨p250, p251, p252, p253, l25⟩ := Kb_14.out.use4))
  rcases HU3.out with rfl | rfl | rfl <;> rcases HV3.out with rfl | rfl | rfl
  all_goals first | (exfalso; have := HT1.out; have := HT2.out; omega) | skip
  all_goals
    go_wp2
    obtain ⟨p260, p261, p262, p263, l26⟩ := Ka_14.out.use4
    obtain ⟨p270, p271, p272, p273, l27⟩ := Kb_14.out.use4
    have tok0 : True := trivial
    have tok1 : True := trivial
    have tok2 : True := trivial
    go_region_held3 (fun w' => w'.cell? ⟨w.heap.size, 0, none⟩ = some (.bool b00) ∧ w'.cell? ⟨w.heap.size, 1, none⟩ = some (.slice a00 n00 c00) ∧ w'.cell? ⟨w.heap.size, 2, none⟩ = some (.bool e00) ∧ w'.cell? ⟨w.heap.size, 3, none⟩ = some (.slice g00 m00 k00) ∧ w'.cell? ⟨w.heap.size + 1, 0, none⟩ = some (.bool b01) ∧ w'.cell? ⟨w.heap.size + 1, 1, none⟩ = some (.slice a01 n01 c01) ∧ w'.cell? ⟨w.heap.size + 1, 2, none⟩ = some (.bool e01) ∧ w'.cell? ⟨w.heap.size + 1, 3, none⟩ = some (.slice g01 m01 k01)) (first | (refine ⟨?_, ?_, ?_, ?_, ?_, ?_, ?_, ?_⟩ <;> (first | with_reducible assumption | ((with_reducible refine Eq.trans (cell_drew _ _) ?_); with_reducible assumption) | ((rw [cell_far4 _ _ _ _ _ _ _ _ (by omega)]); with_reducible assumption) | ((repeat rw [cell_far2 _ _ _ _ _ _ (by omega)]); with_reducible assumption) | go_keep)) | trivial | go_keep)
      (first
        | (go_at_call 19; have _t := tok0; clear _t tok0; ((with_reducible refine Calls.mono (q_plain (lq HQ.out (by first | exact x_14.out | exact x_14.out.drew_ | exact x_14.out.alloc_ _ | exact (x_14.out.alloc_ _).drew_)) (by omega) (by omega)) ?_)); rintro e w15 ⟨v, rfl, h, hb⟩; have hk := h; obtain ⟨b15, A15, n15, c15, d15, B15, m15, k15, rfl, -, -, -, -, -⟩ := h.form; clear h; have hB := (show Below w14.heap.size w14 w15 from by first | exact hb | exact bundrew hb | exact bun hb | exact bundrew (bun hb) | exact bun (bundrew hb)); have x_15 := Lib.hid (x_14.out.below hB); have y_15 := Lib.hid (y_14.out.below hB); have z_15 := Lib.hid (z_14.out.below hB); have Ka_15 := Lib.hid (Ka_14.out.below hB); have Kb_15 := Lib.hid (Kb_14.out.below hB); have Kc_15 := Lib.hid (Kc_14.out.below hB); have d_15 := Lib.hid (hk); have HB_15 := Lib.hid (below_trans HB_14.out hB); have hs_15 : w.heap.size ≤ w15.heap.size := HB_15.out.size; have hz_15 : w14.heap.size + 0 ≤ w15.heap.size := (by have h := hb.size; (try simp at h); omega); clear hB hb x_14 y_14 z_14 Ka_14 Kb_14 Kc_14 HB_14 p240 p241 p242 p243 l24 p250 p251 p252 p253 l25 p260 p261 p262 p263 l26 p270 p271 p272 p273 l27; obtain ⟨p280, p281, p282, p283, l28⟩ := Ka_15.out.use4; obtain ⟨p290, p291, p292, p293, l29⟩ := Kb_15.out.use4)
        | (go_at_call 19; have _t := tok1; clear _t tok1; ((with_reducible refine Calls.mono (q_plain (lq HP.out (by first | exact y_15.out | exact y_15.out.drew_ | exact y_15.out.alloc_ _ | exact (y_15.out.alloc_ _).drew_)) (by omega) (by omega)) ?_)); rintro e w16 ⟨v, rfl, h, hb⟩; have hk := h; obtain ⟨b16, A16, n16, c16, d16, B16, m16, k16, rfl, -, -, -, -, -⟩ := h.form; clear h; have hB := (show Below w15.heap.size w15 w16 from by first | exact hb | exact bundrew hb | exact bun hb | exact bundrew (bun hb) | exact bun (bundrew hb)); have x_16 := Lib.hid (x_15.out.below hB); have y_16 := Lib.hid (y_15.out.below hB); have z_16 := Lib.hid (z_15.out.below hB); have d_16 := Lib.hid (d_15.out.below hB); have Ka_16 := Lib.hid (Ka_15.out.below hB); have Kb_16 := Lib.hid (Kb_15.out.below hB); have Kc_16 := Lib.hid (Kc_15.out.below hB); have o_16 := Lib.hid (hk); have HB_16 := Lib.hid (below_trans HB_15.out hB); have hs_16 : w.heap.size ≤ w16.heap.size := HB_16.out.size; have hz_16 : w15.heap.size + 0 ≤ w16.heap.size := (by have h := hb.size; (try simp at h); omega); clear hB hb x_15 y_15 z_15 d_15 Ka_15 Kb_15 Kc_15 HB_15 p280 p281 p282 p283 l28 p290 p291 p292 p293 l29; obtain ⟨p300, p301, p302, p303, l30⟩ := Ka_16.out.use4; obtain ⟨p310, p311, p312, p313, l31⟩ := Kb_16.out.use4)
        | (go_at_call 18; have _t := tok2; clear _t tok2; ((with_reducible refine Calls.mono (rat_same_is HE.out (by first | exact d_16.out | exact d_16.out.drew_ | exact d_16.out.alloc_ _ | exact (d_16.out.alloc_ _).drew_) (by first | exact o_16.out | exact o_16.out.drew_ | exact o_16.out.alloc_ _ | exact (o_16.out.alloc_ _).drew_) BX.out BY.out (by omega)) ?_)); rintro e w17 ⟨rfl, hb⟩; have hB := (show Below w16.heap.size w16 w17 from by first | exact hb | exact bundrew hb | exact bun hb | exact bundrew (bun hb) | exact bun (bundrew hb)); have x_17 := Lib.hid (x_16.out.below hB); have y_17 := Lib.hid (y_16.out.below hB); have z_17 := Lib.hid (z_16.out.below hB); have Ka_17 := Lib.hid (Ka_16.out.below hB); have Kb_17 := Lib.hid (Kb_16.out.below hB); have Kc_17 := Lib.hid (Kc_16.out.below hB); have HB_17 := Lib.hid (below_trans HB_16.out hB); have hs_17 : w.heap.size ≤ w17.heap.size := HB_17.out.size; have hz_17 : w16.heap.size + 0 ≤ w17.heap.size := (by have h := hb.size; (try simp at h); omega); clear hB hb x_16 y_16 z_16 d_16 o_16 Ka_16 Kb_16 Kc_16 HB_16 p300 p301 p302 p303 l30 p310 p311 p312 p313 l31; obtain ⟨p320, p321, p322, p323, l32⟩ := Ka_17.out.use4; obtain ⟨p330, p331, p332, p333, l33⟩ := Kb_17.out.use4))
    go_wp2
    go_ret
    exact ⟨by simp, HB_17.out⟩

set_option maxRecDepth 100000 in
set_option maxHeartbeats 32000000 in
theorem order_g (b00 : Bool) (a00 : Option Addr) (n00 c00 : Nat) (e00 : Bool) (g00 : Option Addr) (m00 k00 : Nat) (b01 : Bool) (a01 : Option Addr) (n01 c01 : Nat) (e01 : Bool) (g01 : Option Addr) (m01 k01 : Nat) (b02 : Bool) (a02 : Option Addr) (n02 c02 : Nat) (e02 : Bool) (g02 : Option Addr) (m02 k02 : Nat) (w : World) (X Y X' Y' X'' Y'' : Int) (hx : LimR 4 w (.agg #[.bool b00, .slice a00 n00 c00, .bool e00, .slice g00 m00 k00]) X Y) (hy : LimR 4 w (.agg #[.bool b01, .slice a01 n01 c01, .bool e01, .slice g01 m01 k01]) X' Y') (hz : LimR 4 w (.agg #[.bool b02, .slice a02 n02 c02, .bool e02, .slice g02 m02 k02]) X'' Y'') (h0 : (decide (n00 ≤ 4) && decide (m00 ≤ 4)) = true) (h1 : (decide (n01 ≤ 4) && decide (m01 ≤ 4)) = true) (h2 : (decide (n02 ≤ 4) && decide (m02 ≤ 4)) = true) (hs : cmpQ (ratOf X Y) (ratOf X' Y') = 1) :
    Calls Tryz.prog 10 #[(.agg #[.bool b00, .slice a00 n00 c00, .bool e00, .slice g00 m00 k00]), (.agg #[.bool b01, .slice a01 n01 c01, .bool e01, .slice g01 m01 k01]), (.agg #[.bool b02, .slice a02 n02 c02, .bool e02, .slice g02 m02 k02])] w fun e w' => e = .returned (.bool true) ∧ Below w.heap.size w w' := by
  have F0 := Lib.hid h0
  have F1 := Lib.hid h1
  have F2 := Lib.hid h2
  obtain ⟨x, hq⟩ : ∃ q, q = ratOf X Y := ⟨_, rfl⟩
  obtain ⟨y, hp⟩ : ∃ q, q = ratOf X' Y' := ⟨_, rfl⟩
  obtain ⟨z, hr⟩ : ∃ q, q = ratOf X'' Y'' := ⟨_, rfl⟩
  rw [← hq, ← hp] at hs
  have BX := Lib.hid ((lq hq hx).bq (by omega))
  have BY := Lib.hid ((lq hp hy).bq (by omega))
  have BZ : Hid (BQ 1 (0 : Rat)) := bq_chk (by decide)
  have BS := Lib.hid (bq_sub BX.out BY.out)
  obtain ⟨u, hu⟩ : ∃ u, cmpQ y z = u := ⟨_, rfl⟩
  obtain ⟨v, hv⟩ : ∃ u, cmpQ x z = u := ⟨_, rfl⟩
  have T1 := @cmpQ_le x y z
  have T2 := @cmpQ_ge x y z
  have hu3 := cmpQ_3 y z
  have hv3 := cmpQ_3 x z
  rw [hs, hu, hv] at T1 T2
  rw [hu] at hu3
  rw [hv] at hv3
  have HS := Lib.hid hs
  have HU := Lib.hid hu
  have HV := Lib.hid hv
  have HS1 : Hid (cmpQ (x - y) 0 = 1) := by show _ = _; rw [cmpQ_sub]; exact hs
  obtain ⟨r0, hr0⟩ : ∃ r, cmpQ y x = r := ⟨_, rfl⟩
  have hr1 : r0 = -1 := by rw [← hr0, cmpQ_swap, hs]; try rfl
  have hw1 : IntKind.i64.wrap (0 - r0) = 1 := by rw [hr1]; decide
  have hw2 : IntKind.i64.wrap (-r0) = 1 := by rw [hr1]; decide
  have HS2 := Lib.hid hr0
  clear hr0 hr1
  have HE : Hid (decide (x = y) = false) := by
    show _ = _
    have := cmpQ_eq x y
    rw [hs] at this
    exact decide_eq_false fun h => absurd (this.2 h) (by decide)
  have HT1 := Lib.hid T1
  have HT2 := Lib.hid T2
  have HU3 := Lib.hid hu3
  have HV3 := Lib.hid hv3
  have HQ := Lib.hid hq
  have HP := Lib.hid hp
  have HR := Lib.hid hr
  have x_0 := Lib.hid hx
  have y_0 := Lib.hid hy
  have z_0 := Lib.hid hz
  clear h0 h1 h2 hq hp hr hs hu hv hx hy hz T1 T2 hu3 hv3
  go_enter Tryz.func10, Tryz.ntmps10
  go_wp2_with fail
  refine Calls.mono (awake3 _) ?_
  rintro e w1 ⟨rfl, hb⟩
  have hB := bun (bun (bun (hb)))
  have x_1 := Lib.hid (x_0.out.below hB)
  have y_1 := Lib.hid (y_0.out.below hB)
  have z_1 := Lib.hid (z_0.out.below hB)
  have Ka_1 := Lib.hid (show Blk w1 (w.heap.size) 26 #[.bool b00, .slice a00 n00 c00, .bool e00, .slice g00 m00 k00] from (((Blk.new _ _ (by simp) _ _).alloc_ _).alloc_ _).below hb)
  have Kb_1 := Lib.hid (show Blk w1 (w.heap.size + 1) 26 #[.bool b01, .slice a01 n01 c01, .bool e01, .slice g01 m01 k01] from ((Blk.new _ _ (by simp) _ _).alloc_ _).below hb)
  have Kc_1 := Lib.hid (show Blk w1 (w.heap.size + 1 + 1) 26 #[.bool b02, .slice a02 n02 c02, .bool e02, .slice g02 m02 k02] from (Blk.new _ _ (by simp) _ _).below hb)
  have HB_1 := Lib.hid (hB)
  have hs_1 : w.heap.size ≤ w1.heap.size := HB_1.out.size
  have hz_1 : w.heap.size + 3 ≤ w1.heap.size := (by have h := hb.size; (try simp at h); omega)
  clear hB hb x_0 y_0 z_0
  obtain ⟨p10, p11, p12, p13, l1⟩ := Ka_1.out.use4
  go_wp2_with fail
  refine Calls.mono (few_is _ _ _ _ _ _ _ _ _ true F0.out) ?_
  rintro e w2 ⟨rfl, hb⟩
  have hB := hb
  have x_2 := Lib.hid (x_1.out.below hB)
  have y_2 := Lib.hid (y_1.out.below hB)
  have z_2 := Lib.hid (z_1.out.below hB)
  have Ka_2 := Lib.hid (Ka_1.out.below hB)
  have Kb_2 := Lib.hid (Kb_1.out.below hB)
  have Kc_2 := Lib.hid (Kc_1.out.below hB)
  have HB_2 := Lib.hid (below_trans HB_1.out hB)
  have hs_2 : w.heap.size ≤ w2.heap.size := HB_2.out.size
  have hz_2 : w1.heap.size + 0 ≤ w2.heap.size := (by have h := hb.size; (try simp at h); omega)
  clear hB hb x_1 y_1 z_1 Ka_1 Kb_1 Kc_1 HB_1 p10 p11 p12 p13 l1
  obtain ⟨p20, p21, p22, p23, l2⟩ := Kb_2.out.use4
  go_wp2_with fail
  refine Calls.mono (few_is _ _ _ _ _ _ _ _ _ true F1.out) ?_
  rintro e w3 ⟨rfl, hb⟩
  have hB := hb
  have x_3 := Lib.hid (x_2.out.below hB)
  have y_3 := Lib.hid (y_2.out.below hB)
  have z_3 := Lib.hid (z_2.out.below hB)
  have Ka_3 := Lib.hid (Ka_2.out.below hB)
  have Kb_3 := Lib.hid (Kb_2.out.below hB)
  have Kc_3 := Lib.hid (Kc_2.out.below hB)
  have HB_3 := Lib.hid (below_trans HB_2.out hB)
  have hs_3 : w.heap.size ≤ w3.heap.size := HB_3.out.size
  have hz_3 : w2.heap.size + 0 ≤ w3.heap.size := (by have h := hb.size; (try simp at h); omega)
  clear hB hb x_2 y_2 z_2 Ka_2 Kb_2 Kc_2 HB_2 p20 p21 p22 p23 l2
  obtain ⟨p30, p31, p32, p33, l3⟩ := Kc_3.out.use4
  go_wp2_with fail
  refine Calls.mono (few_is _ _ _ _ _ _ _ _ _ true F2.out) ?_
  rintro e w4 ⟨rfl, hb⟩
  have hB := hb
  have x_4 := Lib.hid (x_3.out.below hB)
  have y_4 := Lib.hid (y_3.out.below hB)
  have z_4 := Lib.hid (z_3.out.below hB)
  have Ka_4 := Lib.hid (Ka_3.out.below hB)
  have Kb_4 := Lib.hid (Kb_3.out.below hB)
  have Kc_4 := Lib.hid (Kc_3.out.below hB)
  have HB_4 := Lib.hid (below_trans HB_3.out hB)
  have hs_4 : w.heap.size ≤ w4.heap.size := HB_4.out.size
  have hz_4 : w3.heap.size + 0 ≤ w4.heap.size := (by have h := hb.size; (try simp at h); omega)
  clear hB hb x_3 y_3 z_3 Ka_3 Kb_3 Kc_3 HB_3 p30 p31 p32 p33 l3
  obtain ⟨p40, p41, p42, p43, l4⟩ := Ka_4.out.use4
  obtain ⟨p50, p51, p52, p53, l5⟩ := Kb_4.out.use4
  go_wp2_with fail
  refine Calls.mono (qcmp_is HS.out (lq HQ.out x_4.out) (lq HP.out y_4.out) (by omega) (by omega) (by omega) (by omega)) ?_
  rintro e w5 ⟨rfl, hb⟩
  have hB := hb
  have x_5 := Lib.hid (x_4.out.below hB)
  have y_5 := Lib.hid (y_4.out.below hB)
  have z_5 := Lib.hid (z_4.out.below hB)
  have Ka_5 := Lib.hid (Ka_4.out.below hB)
  have Kb_5 := Lib.hid (Kb_4.out.below hB)
  have Kc_5 := Lib.hid (Kc_4.out.below hB)
  have HB_5 := Lib.hid (below_trans HB_4.out hB)
  have hs_5 : w.heap.size ≤ w5.heap.size := HB_5.out.size
  have hz_5 : w4.heap.size + 0 ≤ w5.heap.size := (by have h := hb.size; (try simp at h); omega)
  clear hB hb x_4 y_4 z_4 Ka_4 Kb_4 Kc_4 HB_4 p40 p41 p42 p43 l4 p50 p51 p52 p53 l5
  obtain ⟨p60, p61, p62, p63, l6⟩ := Kb_5.out.use4
  obtain ⟨p70, p71, p72, p73, l7⟩ := Kc_5.out.use4
  go_wp2_with fail
  refine Calls.mono (qcmp_is HU.out (lq HP.out y_5.out) (lq HR.out z_5.out) (by omega) (by omega) (by omega) (by omega)) ?_
  rintro e w6 ⟨rfl, hb⟩
  have hB := hb
  have x_6 := Lib.hid (x_5.out.below hB)
  have y_6 := Lib.hid (y_5.out.below hB)
  have z_6 := Lib.hid (z_5.out.below hB)
  have Ka_6 := Lib.hid (Ka_5.out.below hB)
  have Kb_6 := Lib.hid (Kb_5.out.below hB)
  have Kc_6 := Lib.hid (Kc_5.out.below hB)
  have HB_6 := Lib.hid (below_trans HB_5.out hB)
  have hs_6 : w.heap.size ≤ w6.heap.size := HB_6.out.size
  have hz_6 : w5.heap.size + 0 ≤ w6.heap.size := (by have h := hb.size; (try simp at h); omega)
  clear hB hb x_5 y_5 z_5 Ka_5 Kb_5 Kc_5 HB_5 p60 p61 p62 p63 l6 p70 p71 p72 p73 l7
  obtain ⟨p80, p81, p82, p83, l8⟩ := Ka_6.out.use4
  obtain ⟨p90, p91, p92, p93, l9⟩ := Kc_6.out.use4
  go_wp2_with fail
  refine Calls.mono (qcmp_is HV.out (lq HQ.out x_6.out) (lq HR.out z_6.out) (by omega) (by omega) (by omega) (by omega)) ?_
  rintro e w7 ⟨rfl, hb⟩
  have hB := hb
  have x_7 := Lib.hid (x_6.out.below hB)
  have y_7 := Lib.hid (y_6.out.below hB)
  have z_7 := Lib.hid (z_6.out.below hB)
  have Ka_7 := Lib.hid (Ka_6.out.below hB)
  have Kb_7 := Lib.hid (Kb_6.out.below hB)
  have Kc_7 := Lib.hid (Kc_6.out.below hB)
  have HB_7 := Lib.hid (below_trans HB_6.out hB)
  have hs_7 : w.heap.size ≤ w7.heap.size := HB_7.out.size
  have hz_7 : w6.heap.size + 0 ≤ w7.heap.size := (by have h := hb.size; (try simp at h); omega)
  clear hB hb x_6 y_6 z_6 Ka_6 Kb_6 Kc_6 HB_6 p80 p81 p82 p83 l8 p90 p91 p92 p93 l9
  go_wp2
  obtain ⟨p100, p101, p102, p103, l10⟩ := Ka_7.out.use4
  obtain ⟨p110, p111, p112, p113, l11⟩ := Kb_7.out.use4
  have tok0 : True := trivial
  have tok1 : True := trivial
  have tok2 : True := trivial
  have tok3 : True := trivial
  have tok4 : True := trivial
  have tok5 : True := trivial
  have tok6 : True := trivial
  go_region_held3 (fun w' => w'.cell? ⟨w.heap.size, 0, none⟩ = some (.bool b00) ∧ w'.cell? ⟨w.heap.size, 1, none⟩ = some (.slice a00 n00 c00) ∧ w'.cell? ⟨w.heap.size, 2, none⟩ = some (.bool e00) ∧ w'.cell? ⟨w.heap.size, 3, none⟩ = some (.slice g00 m00 k00) ∧ w'.cell? ⟨w.heap.size + 1, 0, none⟩ = some (.bool b01) ∧ w'.cell? ⟨w.heap.size + 1, 1, none⟩ = some (.slice a01 n01 c01) ∧ w'.cell? ⟨w.heap.size + 1, 2, none⟩ = some (.bool e01) ∧ w'.cell? ⟨w.heap.size + 1, 3, none⟩ = some (.slice g01 m01 k01)) (first | (refine ⟨?_, ?_, ?_, ?_, ?_, ?_, ?_, ?_⟩ <;> (first | with_reducible assumption | ((with_reducible refine Eq.trans (cell_drew _ _) ?_); with_reducible assumption) | ((rw [cell_far4 _ _ _ _ _ _ _ _ (by omega)]); with_reducible assumption) | ((repeat rw [cell_far2 _ _ _ _ _ _ (by omega)]); with_reducible assumption) | go_keep)) | trivial | go_keep)
    (first
      | (go_at_call 25; have _t := tok0; clear _t tok0; ((with_reducible refine Calls.mono (q_sub (lq HQ.out (by first | exact x_7.out | exact x_7.out.drew_ | exact x_7.out.alloc_ _ | exact (x_7.out.alloc_ _).drew_)) (lq HP.out (by first | exact y_7.out | exact y_7.out.drew_ | exact y_7.out.alloc_ _ | exact (y_7.out.alloc_ _).drew_)) (by omega) (by omega) (by omega) (by omega)) ?_)); rintro e w8 ⟨v, rfl, h, hb⟩; have hk := h; obtain ⟨b8, A8, n8, c8, d8, B8, m8, k8, rfl, -, -, -, -, -⟩ := h.form; clear h; have hB := (show Below w7.heap.size w7 w8 from by first | exact hb | exact bundrew hb | exact bun hb | exact bundrew (bun hb) | exact bun (bundrew hb)); have x_8 := Lib.hid (x_7.out.below hB); have y_8 := Lib.hid (y_7.out.below hB); have z_8 := Lib.hid (z_7.out.below hB); have Ka_8 := Lib.hid (Ka_7.out.below hB); have Kb_8 := Lib.hid (Kb_7.out.below hB); have Kc_8 := Lib.hid (Kc_7.out.below hB); have d_8 := Lib.hid (hk); have HB_8 := Lib.hid (below_trans HB_7.out hB); have hs_8 : w.heap.size ≤ w8.heap.size := HB_8.out.size; have hz_8 : w7.heap.size + 0 ≤ w8.heap.size := (by have h := hb.size; (try simp at h); omega); clear hB hb x_7 y_7 z_7 Ka_7 Kb_7 Kc_7 HB_7 p100 p101 p102 p103 l10 p110 p111 p112 p113 l11; obtain ⟨p120, p121, p122, p123, l12⟩ := Ka_8.out.use4; obtain ⟨p130, p131, p132, p133, l13⟩ := Kb_8.out.use4)
      | (go_at_call 38; have _t := tok1; clear _t tok1; ((with_reducible refine Calls.mono (rzero_any _) ?_)); rintro e w9 ⟨v, rfl, h, hb⟩; have hk := h; obtain ⟨b9, A9, n9, c9, d9, B9, m9, k9, rfl, -, -, -, -, -⟩ := h.form; clear h; have hB := (show Below w8.heap.size w8 w9 from by first | exact hb | exact bundrew hb | exact bun hb | exact bundrew (bun hb) | exact bun (bundrew hb)); have x_9 := Lib.hid (x_8.out.below hB); have y_9 := Lib.hid (y_8.out.below hB); have z_9 := Lib.hid (z_8.out.below hB); have d_9 := Lib.hid (d_8.out.below hB); have Ka_9 := Lib.hid (Ka_8.out.below hB); have Kb_9 := Lib.hid (Kb_8.out.below hB); have Kc_9 := Lib.hid (Kc_8.out.below hB); have o_9 := Lib.hid (hk); have HB_9 := Lib.hid (below_trans HB_8.out hB); have hs_9 : w.heap.size ≤ w9.heap.size := HB_9.out.size; have hz_9 : w8.heap.size + 0 ≤ w9.heap.size := (by have h := hb.size; (try simp at h); omega); clear hB hb x_8 y_8 z_8 d_8 Ka_8 Kb_8 Kc_8 HB_8 p120 p121 p122 p123 l12 p130 p131 p132 p133 l13; obtain ⟨p140, p141, p142, p143, l14⟩ := Ka_9.out.use4; obtain ⟨p150, p151, p152, p153, l15⟩ := Kb_9.out.use4)
      | (go_at_call 21; have _t := tok2; clear _t tok2; ((with_reducible refine Calls.mono (qcmp_is HS1.out (irq BS.out (by first | exact d_9.out | exact d_9.out.drew_ | exact d_9.out.alloc_ _ | exact (d_9.out.alloc_ _).drew_)) (irq BZ.out (by first | exact o_9.out | exact o_9.out.drew_ | exact o_9.out.alloc_ _ | exact (o_9.out.alloc_ _).drew_)) (by omega) (by omega) (by omega) (by omega)) ?_)); rintro e w10 ⟨rfl, hb⟩; have hB := (show Below w9.heap.size w9 w10 from by first | exact hb | exact bundrew hb | exact bun hb | exact bundrew (bun hb) | exact bun (bundrew hb)); have x_10 := Lib.hid (x_9.out.below hB); have y_10 := Lib.hid (y_9.out.below hB); have z_10 := Lib.hid (z_9.out.below hB); have Ka_10 := Lib.hid (Ka_9.out.below hB); have Kb_10 := Lib.hid (Kb_9.out.below hB); have Kc_10 := Lib.hid (Kc_9.out.below hB); have HB_10 := Lib.hid (below_trans HB_9.out hB); have hs_10 : w.heap.size ≤ w10.heap.size := HB_10.out.size; have hz_10 : w9.heap.size + 0 ≤ w10.heap.size := (by have h := hb.size; (try simp at h); omega); clear hB hb x_9 y_9 z_9 d_9 o_9 Ka_9 Kb_9 Kc_9 HB_9 p140 p141 p142 p143 l14 p150 p151 p152 p153 l15; obtain ⟨p160, p161, p162, p163, l16⟩ := Ka_10.out.use4; obtain ⟨p170, p171, p172, p173, l17⟩ := Kb_10.out.use4)
      | (go_at_call 21; have _t := tok3; clear _t tok3; ((with_reducible refine Calls.mono (qcmp_is HS2.out (lq HP.out (by first | exact y_10.out | exact y_10.out.drew_ | exact y_10.out.alloc_ _ | exact (y_10.out.alloc_ _).drew_)) (lq HQ.out (by first | exact x_10.out | exact x_10.out.drew_ | exact x_10.out.alloc_ _ | exact (x_10.out.alloc_ _).drew_)) (by omega) (by omega) (by omega) (by omega)) ?_)); rintro e w11 ⟨rfl, hb⟩; have hB := (show Below w10.heap.size w10 w11 from by first | exact hb | exact bundrew hb | exact bun hb | exact bundrew (bun hb) | exact bun (bundrew hb)); have x_11 := Lib.hid (x_10.out.below hB); have y_11 := Lib.hid (y_10.out.below hB); have z_11 := Lib.hid (z_10.out.below hB); have Ka_11 := Lib.hid (Ka_10.out.below hB); have Kb_11 := Lib.hid (Kb_10.out.below hB); have Kc_11 := Lib.hid (Kc_10.out.below hB); have HB_11 := Lib.hid (below_trans HB_10.out hB); have hs_11 : w.heap.size ≤ w11.heap.size := HB_11.out.size; have hz_11 : w10.heap.size + 0 ≤ w11.heap.size := (by have h := hb.size; (try simp at h); omega); clear hB hb x_10 y_10 z_10 Ka_10 Kb_10 Kc_10 HB_10 p160 p161 p162 p163 l16 p170 p171 p172 p173 l17; obtain ⟨p180, p181, p182, p183, l18⟩ := Ka_11.out.use4; obtain ⟨p190, p191, p192, p193, l19⟩ := Kb_11.out.use4)
      | (go_at_call 19; have _t := tok4; clear _t tok4; ((with_reducible refine Calls.mono (q_plain (lq HQ.out (by first | exact x_11.out | exact x_11.out.drew_ | exact x_11.out.alloc_ _ | exact (x_11.out.alloc_ _).drew_)) (by omega) (by omega)) ?_)); rintro e w12 ⟨v, rfl, h, hb⟩; have hk := h; obtain ⟨b12, A12, n12, c12, d12, B12, m12, k12, rfl, -, -, -, -, -⟩ := h.form; clear h; have hB := (show Below w11.heap.size w11 w12 from by first | exact hb | exact bundrew hb | exact bun hb | exact bundrew (bun hb) | exact bun (bundrew hb)); have x_12 := Lib.hid (x_11.out.below hB); have y_12 := Lib.hid (y_11.out.below hB); have z_12 := Lib.hid (z_11.out.below hB); have Ka_12 := Lib.hid (Ka_11.out.below hB); have Kb_12 := Lib.hid (Kb_11.out.below hB); have Kc_12 := Lib.hid (Kc_11.out.below hB); have d_12 := Lib.hid (hk); have HB_12 := Lib.hid (below_trans HB_11.out hB); have hs_12 : w.heap.size ≤ w12.heap.size := HB_12.out.size; have hz_12 : w11.heap.size + 0 ≤ w12.heap.size := (by have h := hb.size; (try simp at h); omega); clear hB hb x_11 y_11 z_11 Ka_11 Kb_11 Kc_11 HB_11 p180 p181 p182 p183 l18 p190 p191 p192 p193 l19; obtain ⟨p200, p201, p202, p203, l20⟩ := Ka_12.out.use4; obtain ⟨p210, p211, p212, p213, l21⟩ := Kb_12.out.use4)
      | (go_at_call 19; have _t := tok5; clear _t tok5; ((with_reducible refine Calls.mono (q_plain (lq HP.out (by first | exact y_12.out | exact y_12.out.drew_ | exact y_12.out.alloc_ _ | exact (y_12.out.alloc_ _).drew_)) (by omega) (by omega)) ?_)); rintro e w13 ⟨v, rfl, h, hb⟩; have hk := h; obtain ⟨b13, A13, n13, c13, d13, B13, m13, k13, rfl, -, -, -, -, -⟩ := h.form; clear h; have hB := (show Below w12.heap.size w12 w13 from by first | exact hb | exact bundrew hb | exact bun hb | exact bundrew (bun hb) | exact bun (bundrew hb)); have x_13 := Lib.hid (x_12.out.below hB); have y_13 := Lib.hid (y_12.out.below hB); have z_13 := Lib.hid (z_12.out.below hB); have d_13 := Lib.hid (d_12.out.below hB); have Ka_13 := Lib.hid (Ka_12.out.below hB); have Kb_13 := Lib.hid (Kb_12.out.below hB); have Kc_13 := Lib.hid (Kc_12.out.below hB); have o_13 := Lib.hid (hk); have HB_13 := Lib.hid (below_trans HB_12.out hB); have hs_13 : w.heap.size ≤ w13.heap.size := HB_13.out.size; have hz_13 : w12.heap.size + 0 ≤ w13.heap.size := (by have h := hb.size; (try simp at h); omega); clear hB hb x_12 y_12 z_12 d_12 Ka_12 Kb_12 Kc_12 HB_12 p200 p201 p202 p203 l20 p210 p211 p212 p213 l21; obtain ⟨p220, p221, p222, p223, l22⟩ := Ka_13.out.use4; obtain ⟨p230, p231, p232, p233, l23⟩ := Kb_13.out.use4)
      | (go_at_call 21; have _t := tok6; clear _t tok6; ((with_reducible refine Calls.mono (qcmp_is HS.out (irq BX.out (by first | exact d_13.out | exact d_13.out.drew_ | exact d_13.out.alloc_ _ | exact (d_13.out.alloc_ _).drew_)) (irq BY.out (by first | exact o_13.out | exact o_13.out.drew_ | exact o_13.out.alloc_ _ | exact (o_13.out.alloc_ _).drew_)) (by omega) (by omega) (by omega) (by omega)) ?_)); rintro e w14 ⟨rfl, hb⟩; have hB := (show Below w13.heap.size w13 w14 from by first | exact hb | exact bundrew hb | exact bun hb | exact bundrew (bun hb) | exact bun (bundrew hb)); have x_14 := Lib.hid (x_13.out.below hB); have y_14 := Lib.hid (y_13.out.below hB); have z_14 := Lib.hid (z_13.out.below hB); have Ka_14 := Lib.hid (Ka_13.out.below hB); have Kb_14 := Lib.hid (Kb_13.out.below hB); have Kc_14 := Lib.hid (Kc_13.out.below hB); have HB_14 := Lib.hid (below_trans HB_13.out hB); have hs_14 : w.heap.size ≤ w14.heap.size := HB_14.out.size; have hz_14 : w13.heap.size + 0 ≤ w14.heap.size := (by have h := hb.size; (try simp at h); omega); clear hB hb x_13 y_13 z_13 d_13 o_13 Ka_13 Kb_13 Kc_13 HB_13 p220 p221 p222 p223 l22 p230 p231 p232 p233 l23; obtain ⟨p240, p241, p242, p243, l24⟩ := Ka_14.out.use4; obtain ⟨p250, p251, p252, p253, l25⟩ := Kb_14.out.use4))
  rcases HU3.out with rfl | rfl | rfl <;> rcases HV3.out with rfl | rfl | rfl
  all_goals first | (exfalso; have := HT1.out; have := HT2.out; omega) | skip
  all_goals
    go_wp2
    obtain ⟨p260, p261, p262, p263, l26⟩ := Ka_14.out.use4
    obtain ⟨p270, p271, p272, p273, l27⟩ := Kb_14.out.use4
    have tok0 : True := trivial
    have tok1 : True := trivial
    have tok2 : True := trivial
    go_region_held3 (fun w' => w'.cell? ⟨w.heap.size, 0, none⟩ = some (.bool b00) ∧ w'.cell? ⟨w.heap.size, 1, none⟩ = some (.slice a00 n00 c00) ∧ w'.cell? ⟨w.heap.size, 2, none⟩ = some (.bool e00) ∧ w'.cell? ⟨w.heap.size, 3, none⟩ = some (.slice g00 m00 k00) ∧ w'.cell? ⟨w.heap.size + 1, 0, none⟩ = some (.bool b01) ∧ w'.cell? ⟨w.heap.size + 1, 1, none⟩ = some (.slice a01 n01 c01) ∧ w'.cell? ⟨w.heap.size + 1, 2, none⟩ = some (.bool e01) ∧ w'.cell? ⟨w.heap.size + 1, 3, none⟩ = some (.slice g01 m01 k01)) (first | (refine ⟨?_, ?_, ?_, ?_, ?_, ?_, ?_, ?_⟩ <;> (first | with_reducible assumption | ((with_reducible refine Eq.trans (cell_drew _ _) ?_); with_reducible assumption) | ((rw [cell_far4 _ _ _ _ _ _ _ _ (by omega)]); with_reducible assumption) | ((repeat rw [cell_far2 _ _ _ _ _ _ (by omega)]); with_reducible assumption) | go_keep)) | trivial | go_keep)
      (first
        | (go_at_call 19; have _t := tok0; clear _t tok0; ((with_reducible refine Calls.mono (q_plain (lq HQ.out (by first | exact x_14.out | exact x_14.out.drew_ | exact x_14.out.alloc_ _ | exact (x_14.out.alloc_ _).drew_)) (by omega) (by omega)) ?_)); rintro e w15 ⟨v, rfl, h, hb⟩; have hk := h; obtain ⟨b15, A15, n15, c15, d15, B15, m15, k15, rfl, -, -, -, -, -⟩ := h.form; clear h; have hB := (show Below w14.heap.size w14 w15 from by first | exact hb | exact bundrew hb | exact bun hb | exact bundrew (bun hb) | exact bun (bundrew hb)); have x_15 := Lib.hid (x_14.out.below hB); have y_15 := Lib.hid (y_14.out.below hB); have z_15 := Lib.hid (z_14.out.below hB); have Ka_15 := Lib.hid (Ka_14.out.below hB); have Kb_15 := Lib.hid (Kb_14.out.below hB); have Kc_15 := Lib.hid (Kc_14.out.below hB); have d_15 := Lib.hid (hk); have HB_15 := Lib.hid (below_trans HB_14.out hB); have hs_15 : w.heap.size ≤ w15.heap.size := HB_15.out.size; have hz_15 : w14.heap.size + 0 ≤ w15.heap.size := (by have h := hb.size; (try simp at h); omega); clear hB hb x_14 y_14 z_14 Ka_14 Kb_14 Kc_14 HB_14 p240 p241 p242 p243 l24 p250 p251 p252 p253 l25 p260 p261 p262 p263 l26 p270 p271 p272 p273 l27; obtain ⟨p280, p281, p282, p283, l28⟩ := Ka_15.out.use4; obtain ⟨p290, p291, p292, p293, l29⟩ := Kb_15.out.use4)
        | (go_at_call 19; have _t := tok1; clear _t tok1; ((with_reducible refine Calls.mono (q_plain (lq HP.out (by first | exact y_15.out | exact y_15.out.drew_ | exact y_15.out.alloc_ _ | exact (y_15.out.alloc_ _).drew_)) (by omega) (by omega)) ?_)); rintro e w16 ⟨v, rfl, h, hb⟩; have hk := h; obtain ⟨b16, A16, n16, c16, d16, B16, m16, k16, rfl, -, -, -, -, -⟩ := h.form; clear h; have hB := (show Below w15.heap.size w15 w16 from by first | exact hb | exact bundrew hb | exact bun hb | exact bundrew (bun hb) | exact bun (bundrew hb)); have x_16 := Lib.hid (x_15.out.below hB); have y_16 := Lib.hid (y_15.out.below hB); have z_16 := Lib.hid (z_15.out.below hB); have d_16 := Lib.hid (d_15.out.below hB); have Ka_16 := Lib.hid (Ka_15.out.below hB); have Kb_16 := Lib.hid (Kb_15.out.below hB); have Kc_16 := Lib.hid (Kc_15.out.below hB); have o_16 := Lib.hid (hk); have HB_16 := Lib.hid (below_trans HB_15.out hB); have hs_16 : w.heap.size ≤ w16.heap.size := HB_16.out.size; have hz_16 : w15.heap.size + 0 ≤ w16.heap.size := (by have h := hb.size; (try simp at h); omega); clear hB hb x_15 y_15 z_15 d_15 Ka_15 Kb_15 Kc_15 HB_15 p280 p281 p282 p283 l28 p290 p291 p292 p293 l29; obtain ⟨p300, p301, p302, p303, l30⟩ := Ka_16.out.use4; obtain ⟨p310, p311, p312, p313, l31⟩ := Kb_16.out.use4)
        | (go_at_call 18; have _t := tok2; clear _t tok2; ((with_reducible refine Calls.mono (rat_same_is HE.out (by first | exact d_16.out | exact d_16.out.drew_ | exact d_16.out.alloc_ _ | exact (d_16.out.alloc_ _).drew_) (by first | exact o_16.out | exact o_16.out.drew_ | exact o_16.out.alloc_ _ | exact (o_16.out.alloc_ _).drew_) BX.out BY.out (by omega)) ?_)); rintro e w17 ⟨rfl, hb⟩; have hB := (show Below w16.heap.size w16 w17 from by first | exact hb | exact bundrew hb | exact bun hb | exact bundrew (bun hb) | exact bun (bundrew hb)); have x_17 := Lib.hid (x_16.out.below hB); have y_17 := Lib.hid (y_16.out.below hB); have z_17 := Lib.hid (z_16.out.below hB); have Ka_17 := Lib.hid (Ka_16.out.below hB); have Kb_17 := Lib.hid (Kb_16.out.below hB); have Kc_17 := Lib.hid (Kc_16.out.below hB); have HB_17 := Lib.hid (below_trans HB_16.out hB); have hs_17 : w.heap.size ≤ w17.heap.size := HB_17.out.size; have hz_17 : w16.heap.size + 0 ≤ w17.heap.size := (by have h := hb.size; (try simp at h); omega); clear hB hb x_16 y_16 z_16 d_16 o_16 Ka_16 Kb_16 Kc_16 HB_16 p300 p301 p302 p303 l30 p310 p311 p312 p313 l31; obtain ⟨p320, p321, p322, p323, l32⟩ := Ka_17.out.use4; obtain ⟨p330, p331, p332, p333, l33⟩ := Kb_17.out.use4))
    go_wp2
    go_ret
    exact ⟨by simp, HB_17.out⟩

theorem order_any (b00 : Bool) (a00 : Option Addr) (n00 c00 : Nat) (e00 : Bool) (g00 : Option Addr) (m00 k00 : Nat) (b01 : Bool) (a01 : Option Addr) (n01 c01 : Nat) (e01 : Bool) (g01 : Option Addr) (m01 k01 : Nat) (b02 : Bool) (a02 : Option Addr) (n02 c02 : Nat) (e02 : Bool) (g02 : Option Addr) (m02 k02 : Nat) (w : World) (w0 : n00 ≤ 4 → m00 ≤ 4 → ∃ q, LimQ 4 w ((.agg #[.bool b00, .slice a00 n00 c00, .bool e00, .slice g00 m00 k00])) q) (w1 : n01 ≤ 4 → m01 ≤ 4 → ∃ q, LimQ 4 w ((.agg #[.bool b01, .slice a01 n01 c01, .bool e01, .slice g01 m01 k01])) q) (w2 : n02 ≤ 4 → m02 ≤ 4 → ∃ q, LimQ 4 w ((.agg #[.bool b02, .slice a02 n02 c02, .bool e02, .slice g02 m02 k02])) q) :
    Calls Tryz.prog 10 #[(.agg #[.bool b00, .slice a00 n00 c00, .bool e00, .slice g00 m00 k00]), (.agg #[.bool b01, .slice a01 n01 c01, .bool e01, .slice g01 m01 k01]), (.agg #[.bool b02, .slice a02 n02 c02, .bool e02, .slice g02 m02 k02])] w fun e w' => e = .returned (.bool true) ∧ Below w.heap.size w w' := by
  cases h0 : (decide (n00 ≤ 4) && decide (m00 ≤ 4))
  · exact order_no0 b00 a00 n00 c00 e00 g00 m00 k00 b01 a01 n01 c01 e01 g01 m01 k01 b02 a02 n02 c02 e02 g02 m02 k02 w h0
  · cases h1 : (decide (n01 ≤ 4) && decide (m01 ≤ 4))
    · exact order_no1 b00 a00 n00 c00 e00 g00 m00 k00 b01 a01 n01 c01 e01 g01 m01 k01 b02 a02 n02 c02 e02 g02 m02 k02 w h0 h1
    · cases h2 : (decide (n02 ≤ 4) && decide (m02 ≤ 4))
      · exact order_no2 b00 a00 n00 c00 e00 g00 m00 k00 b01 a01 n01 c01 e01 g01 m01 k01 b02 a02 n02 c02 e02 g02 m02 k02 w h0 h1 h2
      · have e0 := h0
        have e1 := h1
        have e2 := h2
        rw [Bool.and_eq_true, decide_eq_true_eq, decide_eq_true_eq] at e0 e1 e2
        obtain ⟨q, X, Y, hx, -⟩ := w0 e0.1 e0.2
        obtain ⟨p, X', Y', hy, -⟩ := w1 e1.1 e1.2
        obtain ⟨r, X'', Y'', hz, -⟩ := w2 e2.1 e2.2
        rcases cmpQ_3 (ratOf X Y) (ratOf X' Y') with hs | hs | hs
        · exact order_l b00 a00 n00 c00 e00 g00 m00 k00 b01 a01 n01 c01 e01 g01 m01 k01 b02 a02 n02 c02 e02 g02 m02 k02 w X Y X' Y' X'' Y'' hx hy hz h0 h1 h2 hs
        · exact order_e b00 a00 n00 c00 e00 g00 m00 k00 b01 a01 n01 c01 e01 g01 m01 k01 b02 a02 n02 c02 e02 g02 m02 k02 w X Y X' Y' X'' Y'' hx hy hz h0 h1 h2 hs
        · exact order_g b00 a00 n00 c00 e00 g00 m00 k00 b01 a01 n01 c01 e01 g01 m01 k01 b02 a02 n02 c02 e02 g02 m02 k02 w X Y X' Y' X'' Y'' hx hy hz h0 h1 h2 hs
end Go.Proofs.YtmlijnobdddmnaaGreatDoor
