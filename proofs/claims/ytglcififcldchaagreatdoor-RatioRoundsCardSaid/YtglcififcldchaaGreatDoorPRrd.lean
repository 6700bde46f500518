/- RatioRounds: the walk. -/
import Derived.Test.YtglcififcldchaaGreatDoorPRm
import Derived.Test.YtglcififcldchaaGreatDoorPRs
namespace Go.Proofs.YtglcififcldchaaGreatDoor
open Go.RowKit
attribute [local go_sem ↓] Go.wp_at_zero Go.wp_at_succ
set_option linter.unusedVariables false

theorem lq' {k : Nat} {w : World} {v : Value} {X Y : Int} {q : Rat} (hq : q = ratOf X Y) (h : LimR k w v X Y) : LimQ k w v q := ⟨X, Y, h, hq⟩
theorem few_is' (b : Bool) (A : Option Addr) (n c : Nat) (b' : Bool) (A' : Option Addr) (n' c' : Nat) (w : World) (r : Bool) (hr : (decide (n ≤ 4) && decide (n' ≤ 4)) = r) : Calls Tryz.prog 13 #[.agg #[.bool b, .slice A n c, .bool b', .slice A' n' c']] w fun e w' => e = .returned (.bool r) ∧ Below w.heap.size w w' := by
  subst hr; exact few3_any b A n c b' A' n' c' w
theorem irq' {k : Nat} {w : World} {v : Value} {q : Rat} (hb : BQ k q) (h : IsRat w v q) : LimQ k w v q := h.limQ hb
theorem of_is {N D : Int} {d : Bool} (w : World) (hd : decide (D ≠ 0) = d) (h1 : -9223372036854775808 ≤ N) (h2 : N ≤ 9223372036854775807) (h3 : -9223372036854775808 ≤ D) (h4 : D ≤ 9223372036854775807) : Calls Tryz.prog 29 #[.int .i64 N, .int .i64 D] w fun e w' => RatOfPost w w' e (Rat.divInt N D) d := by
  subst hd; exact of_q N D w h1 h2 h3 h4
theorem rof3_is {N D : Int} {d : Bool} (w : World) (hd : decide (D ≠ 0) = d) (h1 : -9223372036854775808 ≤ N) (h2 : N ≤ 9223372036854775807) (h3 : -9223372036854775808 ≤ D) (h4 : D ≤ 9223372036854775807) : Calls Tryz.prog 30 #[.int .i64 N, .int .i64 D] w fun e w' => RatOfPost w w' e (Rat.divInt N D) d := by
  subst hd; exact rof3_q N D w h1 h2 h3 h4
theorem of_one' (w : World) : Calls Tryz.prog 29 #[.int .i64 1, .int .i64 1] w fun e w' => RatOfPost w w' e 1 true := by
  have := of_q 1 1 w (by omega) (by omega) (by omega) (by omega)
  rw [show Rat.divInt 1 1 = 1 from by decide, show decide ((1 : Int) ≠ 0) = true from rfl] at this
  exact this
theorem bq_of {N D : Int} (h1 : -9223372036854775808 ≤ N) (h2 : N ≤ 9223372036854775807) (h3 : -9223372036854775808 ≤ D) (h4 : D ≤ 9223372036854775807) : BQ 2 (Rat.divInt N D) := by
  have e : (4294967296 : Nat) ^ 2 = 18446744073709551616 := by decide
  rcases Int.lt_trichotomy D 0 with h | h | h
  · rw [← Rat.neg_divInt_neg]
    exact divInt_bq (by omega) (show (-N).natAbs < 4294967296 ^ 2 by omega) (show (-D).natAbs < 4294967296 ^ 2 by omega) (Nat.le_refl _) (Nat.le_refl _)
  · rw [h, Rat.divInt_zero]; exact bq_zero (by omega)
  · exact divInt_bq h (show N.natAbs < 4294967296 ^ 2 by omega) (show D.natAbs < 4294967296 ^ 2 by omega) (Nat.le_refl _) (Nat.le_refl _)
theorem bq_frac {k : Nat} {x : Rat} (h : BQ k x) : BQ k (x - (x.floor : Rat)) := by
  have hd := den_pos' x
  have e := frac_divInt (X := x.num) hd
  rw [Rat.num_divInt_den] at e
  rw [← e]
  have h2 := h.2
  have m1 := Int.emod_nonneg x.num (b := (x.den : Int)) (by omega)
  have m2 := Int.emod_lt_of_pos x.num hd
  exact divInt_bq hd (show (x.num % (x.den : Int)).natAbs < 4294967296 ^ k by omega) (show (x.den : Int).natAbs < 4294967296 ^ k from h2) (Nat.le_refl _) (Nat.le_refl _)
theorem ceil_lt {k : Nat} {x : Rat} (h : BQ k x) : (ceilQ x).natAbs < 4294967296 ^ (k + 2) := by
  have h1 := floor_lt h
  unfold ceilQ
  split
  · exact Nat.lt_of_lt_of_le h1 (Nat.pow_le_pow_right (by omega) (by omega))
  · exact i_add h1 (k := k + 1) (m := 0 + 1) (Y := 1) (by decide) (k + 2) (by omega) (by omega)
theorem frac_cmp (x : Rat) : (cmpQ (x - (x.floor : Rat)) 0 = 0 ∨ cmpQ (x - (x.floor : Rat)) 0 = 1) ∧ cmpQ (x - (x.floor : Rat)) 1 = -1 := by
  have h1 : (x.floor : Rat) ≤ x := Rat.floor_le x
  have h2 : x - 1 < (x.floor : Rat) := Rat.lt_floor
  generalize (x.floor : Rat) = y at *
  unfold cmpQ
  constructor <;> grind

set_option maxRecDepth 100000 in
set_option maxHeartbeats 2000000 in
theorem rounds_no (b00 : Bool) (a00 : Option Addr) (n00 c00 : Nat) (e00 : Bool) (g00 : Option Addr) (m00 k00 : Nat) (N D : Int) (w : World) (h0 : (decide (n00 ≤ 4) && decide (m00 ≤ 4)) = false) :
    Calls Tryz.prog 4 #[(.agg #[.bool b00, .slice a00 n00 c00, .bool e00, .slice g00 m00 k00]), .int .i64 N, .int .i64 D] w fun e w' => e = .returned (.bool true) ∧ Below w.heap.size w w' := by
  have F0 := Lib.hid h0
  clear h0
  go_enter Tryz.func4, Tryz.ntmps4
  go_wp2_with fail
  refine Calls.mono (awake3 _) ?_
  rintro e w1 ⟨rfl, hb⟩
  have hB := bun (hb)
  have Ka_1 := Lib.hid (show Blk w1 (w.heap.size) 26 #[.bool b00, .slice a00 n00 c00, .bool e00, .slice g00 m00 k00] from (Blk.new _ _ (by simp) _ _).below hb)
  have HB_1 := Lib.hid (hB)
  have hs_1 : w.heap.size ≤ w1.heap.size := HB_1.out.size
  have hz_1 : w.heap.size + 1 ≤ w1.heap.size := (by have h := hb.size; (try simp at h); omega)
  clear hB hb 
  obtain ⟨p10, p11, p12, p13, l1⟩ := Ka_1.out.use4
  go_wp2_with fail
  refine Calls.mono (few_is' _ _ _ _ _ _ _ _ _ false F0.out) ?_
  rintro e w2 ⟨rfl, hb⟩
  have hB := hb
  have Ka_2 := Lib.hid (Ka_1.out.below hB)
  have HB_2 := Lib.hid (below_trans HB_1.out hB)
  have hs_2 : w.heap.size ≤ w2.heap.size := HB_2.out.size
  have hz_2 : w1.heap.size + 0 ≤ w2.heap.size := (by have h := hb.size; (try simp at h); omega)
  clear hB hb Ka_1 HB_1 p10 p11 p12 p13 l1
  go_wp2
  go_ret
  exact ⟨rfl, HB_2.out⟩

set_option maxRecDepth 100000 in
set_option maxHeartbeats 16000000 in
theorem rounds_yes0 (b00 : Bool) (a00 : Option Addr) (n00 c00 : Nat) (e00 : Bool) (g00 : Option Addr) (m00 k00 : Nat) (N D : Int) (w : World) (X Y : Int) (hx : LimR 4 w (.agg #[.bool b00, .slice a00 n00 c00, .bool e00, .slice g00 m00 k00]) X Y) (h1 : -9223372036854775808 ≤ N) (h2 : N ≤ 9223372036854775807) (h3 : -9223372036854775808 ≤ D) (h4 : D ≤ 9223372036854775807) (h0 : (decide (n00 ≤ 4) && decide (m00 ≤ 4)) = true) (hs : cmpQ (ratOf X Y - ((ratOf X Y).floor : Rat)) 0 = 0) :
    Calls Tryz.prog 4 #[(.agg #[.bool b00, .slice a00 n00 c00, .bool e00, .slice g00 m00 k00]), .int .i64 N, .int .i64 D] w fun e w' => e = .returned (.bool true) ∧ Below w.heap.size w w' := by
  have F0 := Lib.hid h0
  obtain ⟨x, hq⟩ : ∃ q, q = ratOf X Y := ⟨_, rfl⟩
  obtain ⟨y, hy⟩ : ∃ y, Rat.divInt N D = y := ⟨_, rfl⟩
  rw [← hq] at hs
  have BX := Lib.hid ((lq' hq hx).bq (by omega))
  have BY := Lib.hid (hy ▸ bq_of h1 h2 h3 h4)
  have BZ : Hid (BQ 1 (0 : Rat)) := bq_chk (by decide)
  have BO : Hid (BQ 1 (1 : Rat)) := bq_chk (by decide)
  obtain ⟨dd, hd⟩ : ∃ d, decide (D ≠ 0) = d := ⟨_, rfl⟩
  have OF := fun w => Lib.hid (of_is w hd h1 h2 h3 h4)
  have ROF := fun w => Lib.hid (rof3_is w hd h1 h2 h3 h4)
  rw [hy] at OF ROF
  have HS1 := (frac_cmp x).2
  obtain ⟨f, hf⟩ : ∃ f, x - (x.floor : Rat) = f := ⟨_, rfl⟩
  obtain ⟨c, hc⟩ : ∃ c, ceilQ x = c := ⟨_, rfl⟩
  obtain ⟨p, hp⟩ : ∃ p, x.floor = p := ⟨_, rfl⟩
  have BF := Lib.hid (hf ▸ bq_frac BX.out)
  have CC := Lib.hid (hc ▸ ceil_lt BX.out)
  have PC := Lib.hid (hp ▸ floor_lt BX.out)
  rw [hf] at hs HS1
  have HS := Lib.hid hs
  have HT := Lib.hid HS1
  have HF := Lib.hid hf
  have HC := Lib.hid hc
  have HP := Lib.hid hp
  have HQ := Lib.hid hq
  have x_0 := Lib.hid hx
  clear h0 hq hy hs HS1 hf hc hp hd hx h1 h2 h3 h4
  go_enter Tryz.func4, Tryz.ntmps4
  go_wp2_with fail
  refine Calls.mono (awake3 _) ?_
  rintro e w1 ⟨rfl, hb⟩
  have hB := bun (hb)
  have x_1 := Lib.hid (x_0.out.below hB)
  have Ka_1 := Lib.hid (show Blk w1 (w.heap.size) 26 #[.bool b00, .slice a00 n00 c00, .bool e00, .slice g00 m00 k00] from (Blk.new _ _ (by simp) _ _).below hb)
  have HB_1 := Lib.hid (hB)
  have hs_1 : w.heap.size ≤ w1.heap.size := HB_1.out.size
  have hz_1 : w.heap.size + 1 ≤ w1.heap.size := (by have h := hb.size; (try simp at h); omega)
  clear hB hb x_0
  obtain ⟨p10, p11, p12, p13, l1⟩ := Ka_1.out.use4
  go_wp2_with fail
  refine Calls.mono (few_is' _ _ _ _ _ _ _ _ _ true F0.out) ?_
  rintro e w2 ⟨rfl, hb⟩
  have hB := hb
  have x_2 := Lib.hid (x_1.out.below hB)
  have Ka_2 := Lib.hid (Ka_1.out.below hB)
  have HB_2 := Lib.hid (below_trans HB_1.out hB)
  have hs_2 : w.heap.size ≤ w2.heap.size := HB_2.out.size
  have hz_2 : w1.heap.size + 0 ≤ w2.heap.size := (by have h := hb.size; (try simp at h); omega)
  clear hB hb x_1 Ka_1 HB_1 p10 p11 p12 p13 l1
  go_wp2_with fail
  refine Calls.mono ((OF _).out) ?_
  rintro e w3 ⟨v, rfl, h, hb⟩
  have hk := h
  obtain ⟨b3, A3, n3, c3, d3, B3, m3, k3, rfl, -, -, -, -, -⟩ := h.form
  clear h
  have hB := hb
  have x_3 := Lib.hid (x_2.out.below hB)
  have Ka_3 := Lib.hid (Ka_2.out.below hB)
  have ox_3 := Lib.hid (hk)
  have HB_3 := Lib.hid (below_trans HB_2.out hB)
  have hs_3 : w.heap.size ≤ w3.heap.size := HB_3.out.size
  have hz_3 : w2.heap.size + 0 ≤ w3.heap.size := (by have h := hb.size; (try simp at h); omega)
  clear hB hb x_2 Ka_2 HB_2
  go_wp2_with fail
  refine Calls.mono ((ROF _).out) ?_
  rintro e w4 ⟨v, rfl, h, hb⟩
  have hk := h
  obtain ⟨b4, A4, n4, c4, d4, B4, m4, k4, rfl, -, -, -, -, -⟩ := h.form
  clear h
  have hB := bun (hb)
  have x_4 := Lib.hid (x_3.out.below hB)
  have ox_4 := Lib.hid (ox_3.out.below hB)
  have Ka_4 := Lib.hid (Ka_3.out.below hB)
  have Kp_4 := Lib.hid (show Blk w4 (w3.heap.size) 26 #[.bool b3, .slice A3 n3 c3, .bool d3, .slice B3 m3 k3] from (Blk.new _ _ (by simp) _ _).below hb)
  have oy_4 := Lib.hid (hk)
  have HB_4 := Lib.hid (below_trans HB_3.out hB)
  have hs_4 : w.heap.size ≤ w4.heap.size := HB_4.out.size
  have hz_4 : w3.heap.size + 1 ≤ w4.heap.size := (by have h := hb.size; (try simp at h); omega)
  clear hB hb x_3 ox_3 Ka_3 HB_3
  obtain ⟨p20, p21, p22, p23, l2⟩ := Ka_4.out.use4
  go_wp2_with fail
  refine Calls.mono (qfrac_is HF.out (lq' HQ.out (x_4.out.alloc_ _)) (by omega) (by omega)) ?_
  rintro e w5 ⟨v, rfl, h, hb⟩
  have hk := h
  obtain ⟨b5, A5, n5, c5, d5, B5, m5, k5, rfl, -, -, -, -, -⟩ := h.form
  clear h
  have hB := bun (hb)
  have x_5 := Lib.hid (x_4.out.below hB)
  have ox_5 := Lib.hid (ox_4.out.below hB)
  have oy_5 := Lib.hid (oy_4.out.below hB)
  have Ka_5 := Lib.hid (Ka_4.out.below hB)
  have Kp_5 := Lib.hid (Kp_4.out.below hB)
  have Kq_5 := Lib.hid (show Blk w5 (w4.heap.size) 26 #[.bool b4, .slice A4 n4 c4, .bool d4, .slice B4 m4 k4] from (Blk.new _ _ (by simp) _ _).below hb)
  have fr_5 := Lib.hid (hk)
  have HB_5 := Lib.hid (below_trans HB_4.out hB)
  have hs_5 : w.heap.size ≤ w5.heap.size := HB_5.out.size
  have hz_5 : w4.heap.size + 1 ≤ w5.heap.size := (by have h := hb.size; (try simp at h); omega)
  clear hB hb x_4 ox_4 oy_4 Ka_4 Kp_4 HB_4 p20 p21 p22 p23 l2
  go_wp2
  generalize hW : (w5.alloc (.cells #[.bool b5, .slice A5 n5 c5, .bool d5, .slice B5 m5 k5] 26)) = w6
  have x_6 := Lib.hid (hW ▸ (x_5.out.alloc_ _))
  have ox_6 := Lib.hid (hW ▸ (ox_5.out.alloc_ _))
  have oy_6 := Lib.hid (hW ▸ (oy_5.out.alloc_ _))
  have fr_6 := Lib.hid (hW ▸ (fr_5.out.alloc_ _))
  have Ka_6 := Lib.hid (show Blk w6 (w.heap.size) 26 #[.bool b00, .slice a00 n00 c00, .bool e00, .slice g00 m00 k00] from by rw [← hW]; exact (Ka_5.out.alloc_ _))
  have Kp_6 := Lib.hid (show Blk w6 (w3.heap.size) 26 #[.bool b3, .slice A3 n3 c3, .bool d3, .slice B3 m3 k3] from by rw [← hW]; exact (Kp_5.out.alloc_ _))
  have Kq_6 := Lib.hid (show Blk w6 (w4.heap.size) 26 #[.bool b4, .slice A4 n4 c4, .bool d4, .slice B4 m4 k4] from by rw [← hW]; exact (Kq_5.out.alloc_ _))
  have Kf_6 := Lib.hid (show Blk w6 (w5.heap.size) 26 #[.bool b5, .slice A5 n5 c5, .bool d5, .slice B5 m5 k5] from by rw [← hW]; exact Blk.new _ _ (by simp) _ _)
  have HB_6 := Lib.hid (show Below w.heap.size w w6 from by rw [← hW]; exact halloc (HB_5.out))
  have hs_6 : w.heap.size ≤ w6.heap.size := HB_6.out.size
  have hz_6 : w5.heap.size + 1 ≤ w6.heap.size := by rw [← hW]; simp
  clear hW x_5 ox_5 oy_5 fr_5 Ka_5 Kp_5 Kq_5 HB_5
  obtain ⟨p30, p31, p32, p33, l3⟩ := Ka_6.out.use4
  obtain ⟨p40, p41, p42, p43, l4⟩ := Kp_6.out.use4
  obtain ⟨p50, p51, p52, p53, l5⟩ := Kq_6.out.use4
  obtain ⟨p60, p61, p62, p63, l6⟩ := Kf_6.out.use4
  have tok0 : True := trivial
  have tok1 : True := trivial
  have tok2 : True := trivial
  have tok3 : True := trivial
  have tok4 : True := trivial
  have tok5 : True := trivial
  have tok6 : True := trivial
  have tok7 : True := trivial
  have tok8 : True := trivial
  go_region_held3 (fun w' => w'.cell? ⟨w.heap.size, 0, none⟩ = some (.bool b00) ∧ w'.cell? ⟨w.heap.size, 1, none⟩ = some (.slice a00 n00 c00) ∧ w'.cell? ⟨w.heap.size, 2, none⟩ = some (.bool e00) ∧ w'.cell? ⟨w.heap.size, 3, none⟩ = some (.slice g00 m00 k00) ∧ w'.cell? ⟨w3.heap.size, 0, none⟩ = some (.bool b3) ∧ w'.cell? ⟨w3.heap.size, 1, none⟩ = some (.slice A3 n3 c3) ∧ w'.cell? ⟨w3.heap.size, 2, none⟩ = some (.bool d3) ∧ w'.cell? ⟨w3.heap.size, 3, none⟩ = some (.slice B3 m3 k3) ∧ w'.cell? ⟨w4.heap.size, 0, none⟩ = some (.bool b4) ∧ w'.cell? ⟨w4.heap.size, 1, none⟩ = some (.slice A4 n4 c4) ∧ w'.cell? ⟨w4.heap.size, 2, none⟩ = some (.bool d4) ∧ w'.cell? ⟨w4.heap.size, 3, none⟩ = some (.slice B4 m4 k4) ∧ w'.cell? ⟨w5.heap.size, 0, none⟩ = some (.bool b5) ∧ w'.cell? ⟨w5.heap.size, 1, none⟩ = some (.slice A5 n5 c5) ∧ w'.cell? ⟨w5.heap.size, 2, none⟩ = some (.bool d5) ∧ w'.cell? ⟨w5.heap.size, 3, none⟩ = some (.slice B5 m5 k5)) (first | (refine ⟨?_, ?_, ?_, ?_, ?_, ?_, ?_, ?_, ?_, ?_, ?_, ?_, ?_, ?_, ?_, ?_⟩ <;> (first | with_reducible assumption | ((with_reducible refine Eq.trans (cell_drew _ _) ?_); with_reducible assumption) | ((rw [cell_far4 _ _ _ _ _ _ _ _ (by omega)]); with_reducible assumption) | ((repeat rw [cell_far2 _ _ _ _ _ _ (by omega)]); with_reducible assumption) | go_keep)) | trivial | go_keep)
    (first
      | (go_at_call 33; have _t := tok0; clear _t tok0; ((with_reducible refine Calls.mono (qfloor_is HP.out (lq' HQ.out (by first | exact x_6.out | exact x_6.out.drew_ | exact x_6.out.alloc_ _ | exact (x_6.out.alloc_ _).drew_)) (by omega) (by omega)) ?_)); rintro e w7 ⟨v, rfl, h, hb⟩; obtain ⟨b7, A7, n7, c7, rfl, -, -, h⟩ := h.form; have hB := (show Below w6.heap.size w6 w7 from by first | exact hb | exact bundrew hb | exact bun hb | exact bundrew (bun hb) | exact bun (bundrew hb)); have x_7 := Lib.hid (x_6.out.below hB); have ox_7 := Lib.hid (ox_6.out.below hB); have oy_7 := Lib.hid (oy_6.out.below hB); have fr_7 := Lib.hid (fr_6.out.below hB); have Ka_7 := Lib.hid (Ka_6.out.below hB); have Kp_7 := Lib.hid (Kp_6.out.below hB); have Kq_7 := Lib.hid (Kq_6.out.below hB); have Kf_7 := Lib.hid (Kf_6.out.below hB); have u_7 := Lib.hid (h); have HB_7 := Lib.hid (below_trans HB_6.out hB); have hs_7 : w.heap.size ≤ w7.heap.size := HB_7.out.size; have hz_7 : w6.heap.size + 0 ≤ w7.heap.size := (by have h := hb.size; (try simp at h); omega); clear hB hb x_6 ox_6 oy_6 fr_6 Ka_6 Kp_6 Kq_6 Kf_6 HB_6 p30 p31 p32 p33 l3 p40 p41 p42 p43 l4 p50 p51 p52 p53 l5 p60 p61 p62 p63 l6; obtain ⟨p70, p71, p72, p73, l7⟩ := Ka_7.out.use4; obtain ⟨p80, p81, p82, p83, l8⟩ := Kp_7.out.use4; obtain ⟨p90, p91, p92, p93, l9⟩ := Kq_7.out.use4; obtain ⟨p100, p101, p102, p103, l10⟩ := Kf_7.out.use4)
      | (go_at_call 34; have _t := tok1; clear _t tok1; ((with_reducible refine Calls.mono ((rfloor_q (lq' HQ.out (by first | exact x_7.out | exact x_7.out.drew_ | exact x_7.out.alloc_ _ | exact (x_7.out.alloc_ _).drew_)) (by omega) (by omega))) ?_)); rintro e w8 ⟨v, rfl, h, hb⟩; rw [HP.out] at h; obtain ⟨b8, A8, n8, c8, rfl, -, -, h⟩ := h.form; have hB := (show Below w7.heap.size w7 w8 from by first | exact hb | exact bundrew hb | exact bun hb | exact bundrew (bun hb) | exact bun (bundrew hb)); have x_8 := Lib.hid (x_7.out.below hB); have ox_8 := Lib.hid (ox_7.out.below hB); have oy_8 := Lib.hid (oy_7.out.below hB); have fr_8 := Lib.hid (fr_7.out.below hB); have u_8 := Lib.hid (u_7.out.below hB); have Ka_8 := Lib.hid (Ka_7.out.below hB); have Kp_8 := Lib.hid (Kp_7.out.below hB); have Kq_8 := Lib.hid (Kq_7.out.below hB); have Kf_8 := Lib.hid (Kf_7.out.below hB); have v_8 := Lib.hid (h); have HB_8 := Lib.hid (below_trans HB_7.out hB); have hs_8 : w.heap.size ≤ w8.heap.size := HB_8.out.size; have hz_8 : w7.heap.size + 0 ≤ w8.heap.size := (by have h := hb.size; (try simp at h); omega); clear hB hb x_7 ox_7 oy_7 fr_7 u_7 Ka_7 Kp_7 Kq_7 Kf_7 HB_7 p70 p71 p72 p73 l7 p80 p81 p82 p83 l8 p90 p91 p92 p93 l9 p100 p101 p102 p103 l10; obtain ⟨p110, p111, p112, p113, l11⟩ := Ka_8.out.use4; obtain ⟨p120, p121, p122, p123, l12⟩ := Kp_8.out.use4; obtain ⟨p130, p131, p132, p133, l13⟩ := Kq_8.out.use4; obtain ⟨p140, p141, p142, p143, l14⟩ := Kf_8.out.use4)
      | (go_at_call 32; have _t := tok2; clear _t tok2; ((with_reducible refine Calls.mono (isInt_same (by first | exact u_8.out | exact u_8.out.drew_ | exact u_8.out.alloc_ _ | exact (u_8.out.alloc_ _).drew_) (by first | exact v_8.out | exact v_8.out.drew_ | exact v_8.out.alloc_ _ | exact (v_8.out.alloc_ _).drew_) PC.out (by omega)) ?_)); rintro e w9 ⟨rfl, hb⟩; have hB := (show Below w8.heap.size w8 w9 from by first | exact hb | exact bundrew hb | exact bun hb | exact bundrew (bun hb) | exact bun (bundrew hb)); have x_9 := Lib.hid (x_8.out.below hB); have ox_9 := Lib.hid (ox_8.out.below hB); have oy_9 := Lib.hid (oy_8.out.below hB); have fr_9 := Lib.hid (fr_8.out.below hB); have Ka_9 := Lib.hid (Ka_8.out.below hB); have Kp_9 := Lib.hid (Kp_8.out.below hB); have Kq_9 := Lib.hid (Kq_8.out.below hB); have Kf_9 := Lib.hid (Kf_8.out.below hB); have HB_9 := Lib.hid (below_trans HB_8.out hB); have hs_9 : w.heap.size ≤ w9.heap.size := HB_9.out.size; have hz_9 : w8.heap.size + 0 ≤ w9.heap.size := (by have h := hb.size; (try simp at h); omega); clear hB hb x_8 ox_8 oy_8 fr_8 u_8 v_8 Ka_8 Kp_8 Kq_8 Kf_8 HB_8 p110 p111 p112 p113 l11 p120 p121 p122 p123 l12 p130 p131 p132 p133 l13 p140 p141 p142 p143 l14; obtain ⟨p150, p151, p152, p153, l15⟩ := Ka_9.out.use4; obtain ⟨p160, p161, p162, p163, l16⟩ := Kp_9.out.use4; obtain ⟨p170, p171, p172, p173, l17⟩ := Kq_9.out.use4; obtain ⟨p180, p181, p182, p183, l18⟩ := Kf_9.out.use4)
      | (go_at_call 35; have _t := tok3; clear _t tok3; ((with_reducible refine Calls.mono (qceil_is HC.out (lq' HQ.out (by first | exact x_9.out | exact x_9.out.drew_ | exact x_9.out.alloc_ _ | exact (x_9.out.alloc_ _).drew_)) (by omega) (by omega)) ?_)); rintro e w10 ⟨v, rfl, h, hb⟩; obtain ⟨b10, A10, n10, c10, rfl, -, -, h⟩ := h.form; have hB := (show Below w9.heap.size w9 w10 from by first | exact hb | exact bundrew hb | exact bun hb | exact bundrew (bun hb) | exact bun (bundrew hb)); have x_10 := Lib.hid (x_9.out.below hB); have ox_10 := Lib.hid (ox_9.out.below hB); have oy_10 := Lib.hid (oy_9.out.below hB); have fr_10 := Lib.hid (fr_9.out.below hB); have Ka_10 := Lib.hid (Ka_9.out.below hB); have Kp_10 := Lib.hid (Kp_9.out.below hB); have Kq_10 := Lib.hid (Kq_9.out.below hB); have Kf_10 := Lib.hid (Kf_9.out.below hB); have u_10 := Lib.hid (h); have HB_10 := Lib.hid (below_trans HB_9.out hB); have hs_10 : w.heap.size ≤ w10.heap.size := HB_10.out.size; have hz_10 : w9.heap.size + 0 ≤ w10.heap.size := (by have h := hb.size; (try simp at h); omega); clear hB hb x_9 ox_9 oy_9 fr_9 Ka_9 Kp_9 Kq_9 Kf_9 HB_9 p150 p151 p152 p153 l15 p160 p161 p162 p163 l16 p170 p171 p172 p173 l17 p180 p181 p182 p183 l18; obtain ⟨p190, p191, p192, p193, l19⟩ := Ka_10.out.use4; obtain ⟨p200, p201, p202, p203, l20⟩ := Kp_10.out.use4; obtain ⟨p210, p211, p212, p213, l21⟩ := Kq_10.out.use4; obtain ⟨p220, p221, p222, p223, l22⟩ := Kf_10.out.use4)
      | (go_at_call 36; have _t := tok4; clear _t tok4; ((with_reducible refine Calls.mono ((rceil_q (lq' HQ.out (by first | exact x_10.out | exact x_10.out.drew_ | exact x_10.out.alloc_ _ | exact (x_10.out.alloc_ _).drew_)) (by omega) (by omega))) ?_)); rintro e w11 ⟨v, rfl, h, hb⟩; rw [HC.out] at h; obtain ⟨b11, A11, n11, c11, rfl, -, -, h⟩ := h.form; have hB := (show Below w10.heap.size w10 w11 from by first | exact hb | exact bundrew hb | exact bun hb | exact bundrew (bun hb) | exact bun (bundrew hb)); have x_11 := Lib.hid (x_10.out.below hB); have ox_11 := Lib.hid (ox_10.out.below hB); have oy_11 := Lib.hid (oy_10.out.below hB); have fr_11 := Lib.hid (fr_10.out.below hB); have u_11 := Lib.hid (u_10.out.below hB); have Ka_11 := Lib.hid (Ka_10.out.below hB); have Kp_11 := Lib.hid (Kp_10.out.below hB); have Kq_11 := Lib.hid (Kq_10.out.below hB); have Kf_11 := Lib.hid (Kf_10.out.below hB); have v_11 := Lib.hid (h); have HB_11 := Lib.hid (below_trans HB_10.out hB); have hs_11 : w.heap.size ≤ w11.heap.size := HB_11.out.size; have hz_11 : w10.heap.size + 0 ≤ w11.heap.size := (by have h := hb.size; (try simp at h); omega); clear hB hb x_10 ox_10 oy_10 fr_10 u_10 Ka_10 Kp_10 Kq_10 Kf_10 HB_10 p190 p191 p192 p193 l19 p200 p201 p202 p203 l20 p210 p211 p212 p213 l21 p220 p221 p222 p223 l22; obtain ⟨p230, p231, p232, p233, l23⟩ := Ka_11.out.use4; obtain ⟨p240, p241, p242, p243, l24⟩ := Kp_11.out.use4; obtain ⟨p250, p251, p252, p253, l25⟩ := Kq_11.out.use4; obtain ⟨p260, p261, p262, p263, l26⟩ := Kf_11.out.use4)
      | (go_at_call 32; have _t := tok5; clear _t tok5; ((with_reducible refine Calls.mono (isInt_same (by first | exact u_11.out | exact u_11.out.drew_ | exact u_11.out.alloc_ _ | exact (u_11.out.alloc_ _).drew_) (by first | exact v_11.out | exact v_11.out.drew_ | exact v_11.out.alloc_ _ | exact (v_11.out.alloc_ _).drew_) CC.out (by omega)) ?_)); rintro e w12 ⟨rfl, hb⟩; have hB := (show Below w11.heap.size w11 w12 from by first | exact hb | exact bundrew hb | exact bun hb | exact bundrew (bun hb) | exact bun (bundrew hb)); have x_12 := Lib.hid (x_11.out.below hB); have ox_12 := Lib.hid (ox_11.out.below hB); have oy_12 := Lib.hid (oy_11.out.below hB); have fr_12 := Lib.hid (fr_11.out.below hB); have Ka_12 := Lib.hid (Ka_11.out.below hB); have Kp_12 := Lib.hid (Kp_11.out.below hB); have Kq_12 := Lib.hid (Kq_11.out.below hB); have Kf_12 := Lib.hid (Kf_11.out.below hB); have HB_12 := Lib.hid (below_trans HB_11.out hB); have hs_12 : w.heap.size ≤ w12.heap.size := HB_12.out.size; have hz_12 : w11.heap.size + 0 ≤ w12.heap.size := (by have h := hb.size; (try simp at h); omega); clear hB hb x_11 ox_11 oy_11 fr_11 u_11 v_11 Ka_11 Kp_11 Kq_11 Kf_11 HB_11 p230 p231 p232 p233 l23 p240 p241 p242 p243 l24 p250 p251 p252 p253 l25 p260 p261 p262 p263 l26; obtain ⟨p270, p271, p272, p273, l27⟩ := Ka_12.out.use4; obtain ⟨p280, p281, p282, p283, l28⟩ := Kp_12.out.use4; obtain ⟨p290, p291, p292, p293, l29⟩ := Kq_12.out.use4; obtain ⟨p300, p301, p302, p303, l30⟩ := Kf_12.out.use4)
      | (go_at_call 37; have _t := tok6; clear _t tok6; ((with_reducible refine Calls.mono ((rfrac_q (lq' HQ.out (by first | exact x_12.out | exact x_12.out.drew_ | exact x_12.out.alloc_ _ | exact (x_12.out.alloc_ _).drew_)) (by omega) (by omega))) ?_)); rintro e w13 ⟨v, rfl, h, hb⟩; rw [HF.out] at h; have hk := h; obtain ⟨b13, A13, n13, c13, d13, B13, m13, k13, rfl, -, -, -, -, -⟩ := h.form; clear h; have hB := (show Below w12.heap.size w12 w13 from by first | exact hb | exact bundrew hb | exact bun hb | exact bundrew (bun hb) | exact bun (bundrew hb)); have x_13 := Lib.hid (x_12.out.below hB); have ox_13 := Lib.hid (ox_12.out.below hB); have oy_13 := Lib.hid (oy_12.out.below hB); have fr_13 := Lib.hid (fr_12.out.below hB); have Ka_13 := Lib.hid (Ka_12.out.below hB); have Kp_13 := Lib.hid (Kp_12.out.below hB); have Kq_13 := Lib.hid (Kq_12.out.below hB); have Kf_13 := Lib.hid (Kf_12.out.below hB); have v_13 := Lib.hid (hk); have HB_13 := Lib.hid (below_trans HB_12.out hB); have hs_13 : w.heap.size ≤ w13.heap.size := HB_13.out.size; have hz_13 : w12.heap.size + 0 ≤ w13.heap.size := (by have h := hb.size; (try simp at h); omega); clear hB hb x_12 ox_12 oy_12 fr_12 Ka_12 Kp_12 Kq_12 Kf_12 HB_12 p270 p271 p272 p273 l27 p280 p281 p282 p283 l28 p290 p291 p292 p293 l29 p300 p301 p302 p303 l30; obtain ⟨p310, p311, p312, p313, l31⟩ := Ka_13.out.use4; obtain ⟨p320, p321, p322, p323, l32⟩ := Kp_13.out.use4; obtain ⟨p330, p331, p332, p333, l33⟩ := Kq_13.out.use4; obtain ⟨p340, p341, p342, p343, l34⟩ := Kf_13.out.use4)
      | (go_at_call 18; have _t := tok7; clear _t tok7; ((with_reducible refine Calls.mono (rat_same (by first | exact fr_13.out | exact fr_13.out.drew_ | exact fr_13.out.alloc_ _ | exact (fr_13.out.alloc_ _).drew_) (by first | exact v_13.out | exact v_13.out.drew_ | exact v_13.out.alloc_ _ | exact (v_13.out.alloc_ _).drew_) BF.out (by omega)) ?_)); rintro e w14 ⟨rfl, hb⟩; have hB := (show Below w13.heap.size w13 w14 from by first | exact hb | exact bundrew hb | exact bun hb | exact bundrew (bun hb) | exact bun (bundrew hb)); have x_14 := Lib.hid (x_13.out.below hB); have ox_14 := Lib.hid (ox_13.out.below hB); have oy_14 := Lib.hid (oy_13.out.below hB); have fr_14 := Lib.hid (fr_13.out.below hB); have Ka_14 := Lib.hid (Ka_13.out.below hB); have Kp_14 := Lib.hid (Kp_13.out.below hB); have Kq_14 := Lib.hid (Kq_13.out.below hB); have Kf_14 := Lib.hid (Kf_13.out.below hB); have HB_14 := Lib.hid (below_trans HB_13.out hB); have hs_14 : w.heap.size ≤ w14.heap.size := HB_14.out.size; have hz_14 : w13.heap.size + 0 ≤ w14.heap.size := (by have h := hb.size; (try simp at h); omega); clear hB hb x_13 ox_13 oy_13 fr_13 v_13 Ka_13 Kp_13 Kq_13 Kf_13 HB_13 p310 p311 p312 p313 l31 p320 p321 p322 p323 l32 p330 p331 p332 p333 l33 p340 p341 p342 p343 l34; obtain ⟨p350, p351, p352, p353, l35⟩ := Ka_14.out.use4; obtain ⟨p360, p361, p362, p363, l36⟩ := Kp_14.out.use4; obtain ⟨p370, p371, p372, p373, l37⟩ := Kq_14.out.use4; obtain ⟨p380, p381, p382, p383, l38⟩ := Kf_14.out.use4)
      | (go_at_call 18; have _t := tok8; clear _t tok8; ((with_reducible refine Calls.mono (rat_same (by first | exact ox_14.out | exact ox_14.out.drew_ | exact ox_14.out.alloc_ _ | exact (ox_14.out.alloc_ _).drew_) (by first | exact oy_14.out | exact oy_14.out.drew_ | exact oy_14.out.alloc_ _ | exact (oy_14.out.alloc_ _).drew_) BY.out (by omega)) ?_)); rintro e w15 ⟨rfl, hb⟩; have hB := (show Below w14.heap.size w14 w15 from by first | exact hb | exact bundrew hb | exact bun hb | exact bundrew (bun hb) | exact bun (bundrew hb)); have x_15 := Lib.hid (x_14.out.below hB); have fr_15 := Lib.hid (fr_14.out.below hB); have Ka_15 := Lib.hid (Ka_14.out.below hB); have Kp_15 := Lib.hid (Kp_14.out.below hB); have Kq_15 := Lib.hid (Kq_14.out.below hB); have Kf_15 := Lib.hid (Kf_14.out.below hB); have HB_15 := Lib.hid (below_trans HB_14.out hB); have hs_15 : w.heap.size ≤ w15.heap.size := HB_15.out.size; have hz_15 : w14.heap.size + 0 ≤ w15.heap.size := (by have h := hb.size; (try simp at h); omega); clear hB hb x_14 ox_14 oy_14 fr_14 Ka_14 Kp_14 Kq_14 Kf_14 HB_14 p350 p351 p352 p353 l35 p360 p361 p362 p363 l36 p370 p371 p372 p373 l37 p380 p381 p382 p383 l38; obtain ⟨p390, p391, p392, p393, l39⟩ := Ka_15.out.use4; obtain ⟨p400, p401, p402, p403, l40⟩ := Kp_15.out.use4; obtain ⟨p410, p411, p412, p413, l41⟩ := Kq_15.out.use4; obtain ⟨p420, p421, p422, p423, l42⟩ := Kf_15.out.use4))
  go_wp2_with fail
  refine Calls.mono (of_one' _) ?_
  rintro e w16 ⟨v, rfl, h, hb⟩
  have hk := h
  obtain ⟨b16, A16, n16, c16, d16, B16, m16, k16, rfl, -, -, -, -, -⟩ := h.form
  clear h
  have hB := hb
  have x_16 := Lib.hid (x_15.out.below hB)
  have fr_16 := Lib.hid (fr_15.out.below hB)
  have Ka_16 := Lib.hid (Ka_15.out.below hB)
  have Kp_16 := Lib.hid (Kp_15.out.below hB)
  have Kq_16 := Lib.hid (Kq_15.out.below hB)
  have Kf_16 := Lib.hid (Kf_15.out.below hB)
  have one_16 := Lib.hid (hk)
  have HB_16 := Lib.hid (below_trans HB_15.out hB)
  have hs_16 : w.heap.size ≤ w16.heap.size := HB_16.out.size
  have hz_16 : w15.heap.size + 0 ≤ w16.heap.size := (by have h := hb.size; (try simp at h); omega)
  clear hB hb x_15 fr_15 Ka_15 Kp_15 Kq_15 Kf_15 HB_15 p390 p391 p392 p393 l39 p400 p401 p402 p403 l40 p410 p411 p412 p413 l41 p420 p421 p422 p423 l42
  go_wp2
  generalize hW : (w16.alloc (.cells #[.bool b16, .slice A16 n16 c16, .bool d16, .slice B16 m16 k16] 26)) = w17
  have x_17 := Lib.hid (hW ▸ (x_16.out.alloc_ _))
  have fr_17 := Lib.hid (hW ▸ (fr_16.out.alloc_ _))
  have one_17 := Lib.hid (hW ▸ (one_16.out.alloc_ _))
  have Ka_17 := Lib.hid (show Blk w17 (w.heap.size) 26 #[.bool b00, .slice a00 n00 c00, .bool e00, .slice g00 m00 k00] from by rw [← hW]; exact (Ka_16.out.alloc_ _))
  have Kp_17 := Lib.hid (show Blk w17 (w3.heap.size) 26 #[.bool b3, .slice A3 n3 c3, .bool d3, .slice B3 m3 k3] from by rw [← hW]; exact (Kp_16.out.alloc_ _))
  have Kq_17 := Lib.hid (show Blk w17 (w4.heap.size) 26 #[.bool b4, .slice A4 n4 c4, .bool d4, .slice B4 m4 k4] from by rw [← hW]; exact (Kq_16.out.alloc_ _))
  have Kf_17 := Lib.hid (show Blk w17 (w5.heap.size) 26 #[.bool b5, .slice A5 n5 c5, .bool d5, .slice B5 m5 k5] from by rw [← hW]; exact (Kf_16.out.alloc_ _))
  have Ko_17 := Lib.hid (show Blk w17 (w16.heap.size) 26 #[.bool b16, .slice A16 n16 c16, .bool d16, .slice B16 m16 k16] from by rw [← hW]; exact Blk.new _ _ (by simp) _ _)
  have HB_17 := Lib.hid (show Below w.heap.size w w17 from by rw [← hW]; exact halloc (HB_16.out))
  have hs_17 : w.heap.size ≤ w17.heap.size := HB_17.out.size
  have hz_17 : w16.heap.size + 1 ≤ w17.heap.size := by rw [← hW]; simp
  clear hW x_16 fr_16 one_16 Ka_16 Kp_16 Kq_16 Kf_16 HB_16
  obtain ⟨p430, p431, p432, p433, l43⟩ := Kf_17.out.use4
  obtain ⟨p440, p441, p442, p443, l44⟩ := Ko_17.out.use4
  have tok0 : True := trivial
  have tok1 : True := trivial
  have tok2 : True := trivial
  go_region_held3 (fun w' => w'.cell? ⟨w5.heap.size, 0, none⟩ = some (.bool b5) ∧ w'.cell? ⟨w5.heap.size, 1, none⟩ = some (.slice A5 n5 c5) ∧ w'.cell? ⟨w5.heap.size, 2, none⟩ = some (.bool d5) ∧ w'.cell? ⟨w5.heap.size, 3, none⟩ = some (.slice B5 m5 k5) ∧ w'.cell? ⟨w16.heap.size, 0, none⟩ = some (.bool b16) ∧ w'.cell? ⟨w16.heap.size, 1, none⟩ = some (.slice A16 n16 c16) ∧ w'.cell? ⟨w16.heap.size, 2, none⟩ = some (.bool d16) ∧ w'.cell? ⟨w16.heap.size, 3, none⟩ = some (.slice B16 m16 k16)) (first | (refine ⟨?_, ?_, ?_, ?_, ?_, ?_, ?_, ?_⟩ <;> (first | with_reducible assumption | ((with_reducible refine Eq.trans (cell_drew _ _) ?_); with_reducible assumption) | ((rw [cell_far4 _ _ _ _ _ _ _ _ (by omega)]); with_reducible assumption) | ((repeat rw [cell_far2 _ _ _ _ _ _ (by omega)]); with_reducible assumption) | go_keep)) | trivial | go_keep)
    (first
      | (go_at_call 38; have _t := tok0; clear _t tok0; ((with_reducible refine Calls.mono (rzero_any _) ?_)); rintro e w18 ⟨v, rfl, h, hb⟩; have hk := h; obtain ⟨b18, A18, n18, c18, d18, B18, m18, k18, rfl, -, -, -, -, -⟩ := h.form; clear h; have hB := (show Below w17.heap.size w17 w18 from by first | exact hb | exact bundrew hb | exact bun hb | exact bundrew (bun hb) | exact bun (bundrew hb)); have x_18 := Lib.hid (x_17.out.below hB); have fr_18 := Lib.hid (fr_17.out.below hB); have one_18 := Lib.hid (one_17.out.below hB); have Ka_18 := Lib.hid (Ka_17.out.below hB); have Kp_18 := Lib.hid (Kp_17.out.below hB); have Kq_18 := Lib.hid (Kq_17.out.below hB); have Kf_18 := Lib.hid (Kf_17.out.below hB); have Ko_18 := Lib.hid (Ko_17.out.below hB); have z_18 := Lib.hid (hk); have HB_18 := Lib.hid (below_trans HB_17.out hB); have hs_18 : w.heap.size ≤ w18.heap.size := HB_18.out.size; have hz_18 : w17.heap.size + 0 ≤ w18.heap.size := (by have h := hb.size; (try simp at h); omega); clear hB hb x_17 fr_17 one_17 Ka_17 Kp_17 Kq_17 Kf_17 Ko_17 HB_17 p430 p431 p432 p433 l43 p440 p441 p442 p443 l44; obtain ⟨p450, p451, p452, p453, l45⟩ := Kf_18.out.use4; obtain ⟨p460, p461, p462, p463, l46⟩ := Ko_18.out.use4)
      | (go_at_call 21; have _t := tok1; clear _t tok1; ((with_reducible refine Calls.mono (qcmp_is HS.out (irq' BF.out (by first | exact fr_18.out | exact fr_18.out.drew_ | exact fr_18.out.alloc_ _ | exact (fr_18.out.alloc_ _).drew_)) (irq' BZ.out (by first | exact z_18.out | exact z_18.out.drew_ | exact z_18.out.alloc_ _ | exact (z_18.out.alloc_ _).drew_)) (by omega) (by omega) (by omega) (by omega)) ?_)); rintro e w19 ⟨rfl, hb⟩; have hB := (show Below w18.heap.size w18 w19 from by first | exact hb | exact bundrew hb | exact bun hb | exact bundrew (bun hb) | exact bun (bundrew hb)); have x_19 := Lib.hid (x_18.out.below hB); have fr_19 := Lib.hid (fr_18.out.below hB); have one_19 := Lib.hid (one_18.out.below hB); have Ka_19 := Lib.hid (Ka_18.out.below hB); have Kp_19 := Lib.hid (Kp_18.out.below hB); have Kq_19 := Lib.hid (Kq_18.out.below hB); have Kf_19 := Lib.hid (Kf_18.out.below hB); have Ko_19 := Lib.hid (Ko_18.out.below hB); have HB_19 := Lib.hid (below_trans HB_18.out hB); have hs_19 : w.heap.size ≤ w19.heap.size := HB_19.out.size; have hz_19 : w18.heap.size + 0 ≤ w19.heap.size := (by have h := hb.size; (try simp at h); omega); clear hB hb x_18 fr_18 one_18 z_18 Ka_18 Kp_18 Kq_18 Kf_18 Ko_18 HB_18 p450 p451 p452 p453 l45 p460 p461 p462 p463 l46; obtain ⟨p470, p471, p472, p473, l47⟩ := Kf_19.out.use4; obtain ⟨p480, p481, p482, p483, l48⟩ := Ko_19.out.use4)
      | (go_at_call 21; have _t := tok2; clear _t tok2; ((with_reducible refine Calls.mono (qcmp_is HT.out (irq' BF.out (by first | exact fr_19.out | exact fr_19.out.drew_ | exact fr_19.out.alloc_ _ | exact (fr_19.out.alloc_ _).drew_)) (irq' BO.out (by first | exact one_19.out | exact one_19.out.drew_ | exact one_19.out.alloc_ _ | exact (one_19.out.alloc_ _).drew_)) (by omega) (by omega) (by omega) (by omega)) ?_)); rintro e w20 ⟨rfl, hb⟩; have hB := (show Below w19.heap.size w19 w20 from by first | exact hb | exact bundrew hb | exact bun hb | exact bundrew (bun hb) | exact bun (bundrew hb)); have x_20 := Lib.hid (x_19.out.below hB); have fr_20 := Lib.hid (fr_19.out.below hB); have one_20 := Lib.hid (one_19.out.below hB); have Ka_20 := Lib.hid (Ka_19.out.below hB); have Kp_20 := Lib.hid (Kp_19.out.below hB); have Kq_20 := Lib.hid (Kq_19.out.below hB); have Kf_20 := Lib.hid (Kf_19.out.below hB); have Ko_20 := Lib.hid (Ko_19.out.below hB); have HB_20 := Lib.hid (below_trans HB_19.out hB); have hs_20 : w.heap.size ≤ w20.heap.size := HB_20.out.size; have hz_20 : w19.heap.size + 0 ≤ w20.heap.size := (by have h := hb.size; (try simp at h); omega); clear hB hb x_19 fr_19 one_19 Ka_19 Kp_19 Kq_19 Kf_19 Ko_19 HB_19 p470 p471 p472 p473 l47 p480 p481 p482 p483 l48; obtain ⟨p490, p491, p492, p493, l49⟩ := Kf_20.out.use4; obtain ⟨p500, p501, p502, p503, l50⟩ := Ko_20.out.use4))
  go_wp2
  go_ret
  exact ⟨by simp, HB_20.out⟩

set_option maxRecDepth 100000 in
set_option maxHeartbeats 16000000 in
theorem rounds_yes1 (b00 : Bool) (a00 : Option Addr) (n00 c00 : Nat) (e00 : Bool) (g00 : Option Addr) (m00 k00 : Nat) (N D : Int) (w : World) (X Y : Int) (hx : LimR 4 w (.agg #[.bool b00, .slice a00 n00 c00, .bool e00, .slice g00 m00 k00]) X Y) (h1 : -9223372036854775808 ≤ N) (h2 : N ≤ 9223372036854775807) (h3 : -9223372036854775808 ≤ D) (h4 : D ≤ 9223372036854775807) (h0 : (decide (n00 ≤ 4) && decide (m00 ≤ 4)) = true) (hs : cmpQ (ratOf X Y - ((ratOf X Y).floor : Rat)) 0 = 1) :
    Calls Tryz.prog 4 #[(.agg #[.bool b00, .slice a00 n00 c00, .bool e00, .slice g00 m00 k00]), .int .i64 N, .int .i64 D] w fun e w' => e = .returned (.bool true) ∧ Below w.heap.size w w' := by
  have F0 := Lib.hid h0
  obtain ⟨x, hq⟩ : ∃ q, q = ratOf X Y := ⟨_, rfl⟩
  obtain ⟨y, hy⟩ : ∃ y, Rat.divInt N D = y := ⟨_, rfl⟩
  rw [← hq] at hs
  have BX := Lib.hid ((lq' hq hx).bq (by omega))
  have BY := Lib.hid (hy ▸ bq_of h1 h2 h3 h4)
  have BZ : Hid (BQ 1 (0 : Rat)) := bq_chk (by decide)
  have BO : Hid (BQ 1 (1 : Rat)) := bq_chk (by decide)
  obtain ⟨dd, hd⟩ : ∃ d, decide (D ≠ 0) = d := ⟨_, rfl⟩
  have OF := fun w => Lib.hid (of_is w hd h1 h2 h3 h4)
  have ROF := fun w => Lib.hid (rof3_is w hd h1 h2 h3 h4)
  rw [hy] at OF ROF
  have HS1 := (frac_cmp x).2
  obtain ⟨f, hf⟩ : ∃ f, x - (x.floor : Rat) = f := ⟨_, rfl⟩
  obtain ⟨c, hc⟩ : ∃ c, ceilQ x = c := ⟨_, rfl⟩
  obtain ⟨p, hp⟩ : ∃ p, x.floor = p := ⟨_, rfl⟩
  have BF := Lib.hid (hf ▸ bq_frac BX.out)
  have CC := Lib.hid (hc ▸ ceil_lt BX.out)
  have PC := Lib.hid (hp ▸ floor_lt BX.out)
  rw [hf] at hs HS1
  have HS := Lib.hid hs
  have HT := Lib.hid HS1
  have HF := Lib.hid hf
  have HC := Lib.hid hc
  have HP := Lib.hid hp
  have HQ := Lib.hid hq
  have x_0 := Lib.hid hx
  clear h0 hq hy hs HS1 hf hc hp hd hx h1 h2 h3 h4
  go_enter Tryz.func4, Tryz.ntmps4
  go_wp2_with fail
  refine Calls.mono (awake3 _) ?_
  rintro e w1 ⟨rfl, hb⟩
  have hB := bun (hb)
  have x_1 := Lib.hid (x_0.out.below hB)
  have Ka_1 := Lib.hid (show Blk w1 (w.heap.size) 26 #[.bool b00, .slice a00 n00 c00, .bool e00, .slice g00 m00 k00] from (Blk.new _ _ (by simp) _ _).below hb)
  have HB_1 := Lib.hid (hB)
  have hs_1 : w.heap.size ≤ w1.heap.size := HB_1.out.size
  have hz_1 : w.heap.size + 1 ≤ w1.heap.size := (by have h := hb.size; (try simp at h); omega)
  clear hB hb x_0
  obtain ⟨p10, p11, p12, p13, l1⟩ := Ka_1.out.use4
  go_wp2_with fail
  refine Calls.mono (few_is' _ _ _ _ _ _ _ _ _ true F0.out) ?_
  rintro e w2 ⟨rfl, hb⟩
  have hB := hb
  have x_2 := Lib.hid (x_1.out.below hB)
  have Ka_2 := Lib.hid (Ka_1.out.below hB)
  have HB_2 := Lib.hid (below_trans HB_1.out hB)
  have hs_2 : w.heap.size ≤ w2.heap.size := HB_2.out.size
  have hz_2 : w1.heap.size + 0 ≤ w2.heap.size := (by have h := hb.size; (try simp at h); omega)
  clear hB hb x_1 Ka_1 HB_1 p10 p11 p12 p13 l1
  go_wp2_with fail
  refine Calls.mono ((OF _).out) ?_
  rintro e w3 ⟨v, rfl, h, hb⟩
  have hk := h
  obtain ⟨b3, A3, n3, c3, d3, B3, m3, k3, rfl, -, -, -, -, -⟩ := h.form
  clear h
  have hB := hb
  have x_3 := Lib.hid (x_2.out.below hB)
  have Ka_3 := Lib.hid (Ka_2.out.below hB)
  have ox_3 := Lib.hid (hk)
  have HB_3 := Lib.hid (below_trans HB_2.out hB)
  have hs_3 : w.heap.size ≤ w3.heap.size := HB_3.out.size
  have hz_3 : w2.heap.size + 0 ≤ w3.heap.size := (by have h := hb.size; (try simp at h); omega)
  clear hB hb x_2 Ka_2 HB_2
  go_wp2_with fail
  refine Calls.mono ((ROF _).out) ?_
  rintro e w4 ⟨v, rfl, h, hb⟩
  have hk := h
  obtain ⟨b4, A4, n4, c4, d4, B4, m4, k4, rfl, -, -, -, -, -⟩ := h.form
  clear h
  have hB := bun (hb)
  have x_4 := Lib.hid (x_3.out.below hB)
  have ox_4 := Lib.hid (ox_3.out.below hB)
  have Ka_4 := Lib.hid (Ka_3.out.below hB)
  have Kp_4 := Lib.hid (show Blk w4 (w3.heap.size) 26 #[.bool b3, .slice A3 n3 c3, .bool d3, .slice B3 m3 k3] from (Blk.new _ _ (by simp) _ _).below hb)
  have oy_4 := Lib.hid (hk)
  have HB_4 := Lib.hid (below_trans HB_3.out hB)
  have hs_4 : w.heap.size ≤ w4.heap.size := HB_4.out.size
  have hz_4 : w3.heap.size + 1 ≤ w4.heap.size := (by have h := hb.size; (try simp at h); omega)
  clear hB hb x_3 ox_3 Ka_3 HB_3
  obtain ⟨p20, p21, p22, p23, l2⟩ := Ka_4.out.use4
  go_wp2_with fail
  refine Calls.mono (qfrac_is HF.out (lq' HQ.out (x_4.out.alloc_ _)) (by omega) (by omega)) ?_
  rintro e w5 ⟨v, rfl, h, hb⟩
  have hk := h
  obtain ⟨b5, A5, n5, c5, d5, B5, m5, k5, rfl, -, -, -, -, -⟩ := h.form
  clear h
  have hB := bun (hb)
  have x_5 := Lib.hid (x_4.out.below hB)
  have ox_5 := Lib.hid (ox_4.out.below hB)
  have oy_5 := Lib.hid (oy_4.out.below hB)
  have Ka_5 := Lib.hid (Ka_4.out.below hB)
  have Kp_5 := Lib.hid (Kp_4.out.below hB)
  have Kq_5 := Lib.hid (show Blk w5 (w4.heap.size) 26 #[.bool b4, .slice A4 n4 c4, .bool d4, .slice B4 m4 k4] from (Blk.new _ _ (by simp) _ _).below hb)
  have fr_5 := Lib.hid (hk)
  have HB_5 := Lib.hid (below_trans HB_4.out hB)
  have hs_5 : w.heap.size ≤ w5.heap.size := HB_5.out.size
  have hz_5 : w4.heap.size + 1 ≤ w5.heap.size := (by have h := hb.size; (try simp at h); omega)
  clear hB hb x_4 ox_4 oy_4 Ka_4 Kp_4 HB_4 p20 p21 p22 p23 l2
  go_wp2
  generalize hW : (w5.alloc (.cells #[.bool b5, .slice A5 n5 c5, .bool d5, .slice B5 m5 k5] 26)) = w6
  have x_6 := Lib.hid (hW ▸ (x_5.out.alloc_ _))
  have ox_6 := Lib.hid (hW ▸ (ox_5.out.alloc_ _))
  have oy_6 := Lib.hid (hW ▸ (oy_5.out.alloc_ _))
  have fr_6 := Lib.hid (hW ▸ (fr_5.out.alloc_ _))
  have Ka_6 := Lib.hid (show Blk w6 (w.heap.size) 26 #[.bool b00, .slice a00 n00 c00, .bool e00, .slice g00 m00 k00] from by rw [← hW]; exact (Ka_5.out.alloc_ _))
  have Kp_6 := Lib.hid (show Blk w6 (w3.heap.size) 26 #[.bool b3, .slice A3 n3 c3, .bool d3, .slice B3 m3 k3] from by rw [← hW]; exact (Kp_5.out.alloc_ _))
  have Kq_6 := Lib.hid (show Blk w6 (w4.heap.size) 26 #[.bool b4, .slice A4 n4 c4, .bool d4, .slice B4 m4 k4] from by rw [← hW]; exact (Kq_5.out.alloc_ _))
  have Kf_6 := Lib.hid (show Blk w6 (w5.heap.size) 26 #[.bool b5, .slice A5 n5 c5, .bool d5, .slice B5 m5 k5] from by rw [← hW]; exact Blk.new _ _ (by simp) _ _)
  have HB_6 := Lib.hid (show Below w.heap.size w w6 from by rw [← hW]; exact halloc (HB_5.out))
  have hs_6 : w.heap.size ≤ w6.heap.size := HB_6.out.size
  have hz_6 : w5.heap.size + 1 ≤ w6.heap.size := by rw [← hW]; simp
  clear hW x_5 ox_5 oy_5 fr_5 Ka_5 Kp_5 Kq_5 HB_5
  obtain ⟨p30, p31, p32, p33, l3⟩ := Ka_6.out.use4
  obtain ⟨p40, p41, p42, p43, l4⟩ := Kp_6.out.use4
  obtain ⟨p50, p51, p52, p53, l5⟩ := Kq_6.out.use4
  obtain ⟨p60, p61, p62, p63, l6⟩ := Kf_6.out.use4
  have tok0 : True := trivial
  have tok1 : True := trivial
  have tok2 : True := trivial
  have tok3 : True := trivial
  have tok4 : True := trivial
  have tok5 : True := trivial
  have tok6 : True := trivial
  have tok7 : True := trivial
  have tok8 : True := trivial
  go_region_held3 (fun w' => w'.cell? ⟨w.heap.size, 0, none⟩ = some (.bool b00) ∧ w'.cell? ⟨w.heap.size, 1, none⟩ = some (.slice a00 n00 c00) ∧ w'.cell? ⟨w.heap.size, 2, none⟩ = some (.bool e00) ∧ w'.cell? ⟨w.heap.size, 3, none⟩ = some (.slice g00 m00 k00) ∧ w'.cell? ⟨w3.heap.size, 0, none⟩ = some (.bool b3) ∧ w'.cell? ⟨w3.heap.size, 1, none⟩ = some (.slice A3 n3 c3) ∧ w'.cell? ⟨w3.heap.size, 2, none⟩ = some (.bool d3) ∧ w'.cell? ⟨w3.heap.size, 3, none⟩ = some (.slice B3 m3 k3) ∧ w'.cell? ⟨w4.heap.size, 0, none⟩ = some (.bool b4) ∧ w'.cell? ⟨w4.heap.size, 1, none⟩ = some (.slice A4 n4 c4) ∧ w'.cell? ⟨w4.heap.size, 2, none⟩ = some (.bool d4) ∧ w'.cell? ⟨w4.heap.size, 3, none⟩ = some (.slice B4 m4 k4) ∧ w'.cell? ⟨w5.heap.size, 0, none⟩ = some (.bool b5) ∧ w'.cell? ⟨w5.heap.size, 1, none⟩ = some (.slice A5 n5 c5) ∧ w'.cell? ⟨w5.heap.size, 2, none⟩ = some (.bool d5) ∧ w'.cell? ⟨w5.heap.size, 3, none⟩ = some (.slice B5 m5 k5)) (first | (refine ⟨?_, ?_, ?_, ?_, ?_, ?_, ?_, ?_, ?_, ?_, ?_, ?_, ?_, ?_, ?_, ?_⟩ <;> (first | with_reducible assumption | ((with_reducible refine Eq.trans (cell_drew _ _) ?_); with_reducible assumption) | ((rw [cell_far4 _ _ _ _ _ _ _ _ (by omega)]); with_reducible assumption) | ((repeat rw [cell_far2 _ _ _ _ _ _ (by omega)]); with_reducible assumption) | go_keep)) | trivial | go_keep)
    (first
      | (go_at_call 33; have _t := tok0; clear _t tok0; ((with_reducible refine Calls.mono (qfloor_is HP.out (lq' HQ.out (by first | exact x_6.out | exact x_6.out.drew_ | exact x_6.out.alloc_ _ | exact (x_6.out.alloc_ _).drew_)) (by omega) (by omega)) ?_)); rintro e w7 ⟨v, rfl, h, hb⟩; obtain ⟨b7, A7, n7, c7, rfl, -, -, h⟩ := h.form; have hB := (show Below w6.heap.size w6 w7 from by first | exact hb | exact bundrew hb | exact bun hb | exact bundrew (bun hb) | exact bun (bundrew hb)); have x_7 := Lib.hid (x_6.out.below hB); have ox_7 := Lib.hid (ox_6.out.below hB); have oy_7 := Lib.hid (oy_6.out.below hB); have fr_7 := Lib.hid (fr_6.out.below hB); have Ka_7 := Lib.hid (Ka_6.out.below hB); have Kp_7 := Lib.hid (Kp_6.out.below hB); have Kq_7 := Lib.hid (Kq_6.out.below hB); have Kf_7 := Lib.hid (Kf_6.out.below hB); have u_7 := Lib.hid (h); have HB_7 := Lib.hid (below_trans HB_6.out hB); have hs_7 : w.heap.size ≤ w7.heap.size := HB_7.out.size; have hz_7 : w6.heap.size + 0 ≤ w7.heap.size := (by have h := hb.size; (try simp at h); omega); clear hB hb x_6 ox_6 oy_6 fr_6 Ka_6 Kp_6 Kq_6 Kf_6 HB_6 p30 p31 p32 p33 l3 p40 p41 p42 p43 l4 p50 p51 p52 p53 l5 p60 p61 p62 p63 l6; obtain ⟨p70, p71, p72, p73, l7⟩ := Ka_7.out.use4; obtain ⟨p80, p81, p82, p83, l8⟩ := Kp_7.out.use4; obtain ⟨p90, p91, p92, p93, l9⟩ := Kq_7.out.use4; obtain ⟨p100, p101, p102, p103, l10⟩ := Kf_7.out.use4)
      | (go_at_call 34; have _t := tok1; clear _t tok1; ((with_reducible refine Calls.mono ((rfloor_q (lq' HQ.out (by first | exact x_7.out | exact x_7.out.drew_ | exact x_7.out.alloc_ _ | exact (x_7.out.alloc_ _).drew_)) (by omega) (by omega))) ?_)); rintro e w8 ⟨v, rfl, h, hb⟩; rw [HP.out] at h; obtain ⟨b8, A8, n8, c8, rfl, -, -, h⟩ := h.form; have hB := (show Below w7.heap.size w7 w8 from by first | exact hb | exact bundrew hb | exact bun hb | exact bundrew (bun hb) | exact bun (bundrew hb)); have x_8 := Lib.hid (x_7.out.below hB); have ox_8 := Lib.hid (ox_7.out.below hB); have oy_8 := Lib.hid (oy_7.out.below hB); have fr_8 := Lib.hid (fr_7.out.below hB); have u_8 := Lib.hid (u_7.out.below hB); have Ka_8 := Lib.hid (Ka_7.out.below hB); have Kp_8 := Lib.hid (Kp_7.out.below hB); have Kq_8 := Lib.hid (Kq_7.out.below hB); have Kf_8 := Lib.hid (Kf_7.out.below hB); have v_8 := Lib.hid (h); have HB_8 := Lib.hid (below_trans HB_7.out hB); have hs_8 : w.heap.size ≤ w8.heap.size := HB_8.out.size; have hz_8 : w7.heap.size + 0 ≤ w8.heap.size := (by have h := hb.size; (try simp at h); omega); clear hB hb x_7 ox_7 oy_7 fr_7 u_7 Ka_7 Kp_7 Kq_7 Kf_7 HB_7 p70 p71 p72 p73 l7 p80 p81 p82 p83 l8 p90 p91 p92 p93 l9 p100 p101 p102 p103 l10; obtain ⟨p110, p111, p112, p113, l11⟩ := Ka_8.out.use4; obtain ⟨p120, p121, p122, p123, l12⟩ := Kp_8.out.use4; obtain ⟨p130, p131, p132, p133, l13⟩ := Kq_8.out.use4; obtain ⟨p140, p141, p142, p143, l14⟩ := Kf_8.out.use4)
      | (go_at_call 32; have _t := tok2; clear _t tok2; ((with_reducible refine Calls.mono (isInt_same (by first | exact u_8.out | exact u_8.out.drew_ | exact u_8.out.alloc_ _ | exact (u_8.out.alloc_ _).drew_) (by first | exact v_8.out | exact v_8.out.drew_ | exact v_8.out.alloc_ _ | exact (v_8.out.alloc_ _).drew_) PC.out (by omega)) ?_)); rintro e w9 ⟨rfl, hb⟩; have hB := (show Below w8.heap.size w8 w9 from by first | exact hb | exact bundrew hb | exact bun hb | exact bundrew (bun hb) | exact bun (bundrew hb)); have x_9 := Lib.hid (x_8.out.below hB); have ox_9 := Lib.hid (ox_8.out.below hB); have oy_9 := Lib.hid (oy_8.out.below hB); have fr_9 := Lib.hid (fr_8.out.below hB); have Ka_9 := Lib.hid (Ka_8.out.below hB); have Kp_9 := Lib.hid (Kp_8.out.below hB); have Kq_9 := Lib.hid (Kq_8.out.below hB); have Kf_9 := Lib.hid (Kf_8.out.below hB); have HB_9 := Lib.hid (below_trans HB_8.out hB); have hs_9 : w.heap.size ≤ w9.heap.size := HB_9.out.size; have hz_9 : w8.heap.size + 0 ≤ w9.heap.size := (by have h := hb.size; (try simp at h); omega); clear hB hb x_8 ox_8 oy_8 fr_8 u_8 v_8 Ka_8 Kp_8 Kq_8 Kf_8 HB_8 p110 p111 p112 p113 l11 p120 p121 p122 p123 l12 p130 p131 p132 p133 l13 p140 p141 p142 p143 l14; obtain ⟨p150, p151, p152, p153, l15⟩ := Ka_9.out.use4; obtain ⟨p160, p161, p162, p163, l16⟩ := Kp_9.out.use4; obtain ⟨p170, p171, p172, p173, l17⟩ := Kq_9.out.use4; obtain ⟨p180, p181, p182, p183, l18⟩ := Kf_9.out.use4)
      | (go_at_call 35; have _t := tok3; clear _t tok3; ((with_reducible refine Calls.mono (qceil_is HC.out (lq' HQ.out (by first | exact x_9.out | exact x_9.out.drew_ | exact x_9.out.alloc_ _ | exact (x_9.out.alloc_ _).drew_)) (by omega) (by omega)) ?_)); rintro e w10 ⟨v, rfl, h, hb⟩; obtain ⟨b10, A10, n10, c10, rfl, -, -, h⟩ := h.form; have hB := (show Below w9.heap.size w9 w10 from by first | exact hb | exact bundrew hb | exact bun hb | exact bundrew (bun hb) | exact bun (bundrew hb)); have x_10 := Lib.hid (x_9.out.below hB); have ox_10 := Lib.hid (ox_9.out.below hB); have oy_10 := Lib.hid (oy_9.out.below hB); have fr_10 := Lib.hid (fr_9.out.below hB); have Ka_10 := Lib.hid (Ka_9.out.below hB); have Kp_10 := Lib.hid (Kp_9.out.below hB); have Kq_10 := Lib.hid (Kq_9.out.below hB); have Kf_10 := Lib.hid (Kf_9.out.below hB); have u_10 := Lib.hid (h); have HB_10 := Lib.hid (below_trans HB_9.out hB); have hs_10 : w.heap.size ≤ w10.heap.size := HB_10.out.size; have hz_10 : w9.heap.size + 0 ≤ w10.heap.size := (by have h := hb.size; (try simp at h); omega); clear hB hb x_9 ox_9 oy_9 fr_9 Ka_9 Kp_9 Kq_9 Kf_9 HB_9 p150 p151 p152 p153 l15 p160 p161 p162 p163 l16 p170 p171 p172 p173 l17 p180 p181 p182 p183 l18; obtain ⟨p190, p191, p192, p193, l19⟩ := Ka_10.out.use4; obtain ⟨p200, p201, p202, p203, l20⟩ := Kp_10.out.use4; obtain ⟨p210, p211, p212, p213, l21⟩ := Kq_10.out.use4; obtain ⟨p220, p221, p222, p223, l22⟩ := Kf_10.out.use4)
      | (go_at_call 36; have _t := tok4; clear _t tok4; ((with_reducible refine Calls.mono ((rceil_q (lq' HQ.out (by first | exact x_10.out | exact x_10.out.drew_ | exact x_10.out.alloc_ _ | exact (x_10.out.alloc_ _).drew_)) (by omega) (by omega))) ?_)); rintro e w11 ⟨v, rfl, h, hb⟩; rw [HC.out] at h; obtain ⟨b11, A11, n11, c11, rfl, -, -, h⟩ := h.form; have hB := (show Below w10.heap.size w10 w11 from by first | exact hb | exact bundrew hb | exact bun hb | exact bundrew (bun hb) | exact bun (bundrew hb)); have x_11 := Lib.hid (x_10.out.below hB); have ox_11 := Lib.hid (ox_10.out.below hB); have oy_11 := Lib.hid (oy_10.out.below hB); have fr_11 := Lib.hid (fr_10.out.below hB); have u_11 := Lib.hid (u_10.out.below hB); have Ka_11 := Lib.hid (Ka_10.out.below hB); have Kp_11 := Lib.hid (Kp_10.out.below hB); have Kq_11 := Lib.hid (Kq_10.out.below hB); have Kf_11 := Lib.hid (Kf_10.out.below hB); have v_11 := Lib.hid (h); have HB_11 := Lib.hid (below_trans HB_10.out hB); have hs_11 : w.heap.size ≤ w11.heap.size := HB_11.out.size; have hz_11 : w10.heap.size + 0 ≤ w11.heap.size := (by have h := hb.size; (try simp at h); omega); clear hB hb x_10 ox_10 oy_10 fr_10 u_10 Ka_10 Kp_10 Kq_10 Kf_10 HB_10 p190 p191 p192 p193 l19 p200 p201 p202 p203 l20 p210 p211 p212 p213 l21 p220 p221 p222 p223 l22; obtain ⟨p230, p231, p232, p233, l23⟩ := Ka_11.out.use4; obtain ⟨p240, p241, p242, p243, l24⟩ := Kp_11.out.use4; obtain ⟨p250, p251, p252, p253, l25⟩ := Kq_11.out.use4; obtain ⟨p260, p261, p262, p263, l26⟩ := Kf_11.out.use4)
      | (go_at_call 32; have _t := tok5; clear _t tok5; ((with_reducible refine Calls.mono (isInt_same (by first | exact u_11.out | exact u_11.out.drew_ | exact u_11.out.alloc_ _ | exact (u_11.out.alloc_ _).drew_) (by first | exact v_11.out | exact v_11.out.drew_ | exact v_11.out.alloc_ _ | exact (v_11.out.alloc_ _).drew_) CC.out (by omega)) ?_)); rintro e w12 ⟨rfl, hb⟩; have hB := (show Below w11.heap.size w11 w12 from by first | exact hb | exact bundrew hb | exact bun hb | exact bundrew (bun hb) | exact bun (bundrew hb)); have x_12 := Lib.hid (x_11.out.below hB); have ox_12 := Lib.hid (ox_11.out.below hB); have oy_12 := Lib.hid (oy_11.out.below hB); have fr_12 := Lib.hid (fr_11.out.below hB); have Ka_12 := Lib.hid (Ka_11.out.below hB); have Kp_12 := Lib.hid (Kp_11.out.below hB); have Kq_12 := Lib.hid (Kq_11.out.below hB); have Kf_12 := Lib.hid (Kf_11.out.below hB); have HB_12 := Lib.hid (below_trans HB_11.out hB); have hs_12 : w.heap.size ≤ w12.heap.size := HB_12.out.size; have hz_12 : w11.heap.size + 0 ≤ w12.heap.size := (by have h := hb.size; (try simp at h); omega); clear hB hb x_11 ox_11 oy_11 fr_11 u_11 v_11 Ka_11 Kp_11 Kq_11 Kf_11 HB_11 p230 p231 p232 p233 l23 p240 p241 p242 p243 l24 p250 p251 p252 p253 l25 p260 p261 p262 p263 l26; obtain ⟨p270, p271, p272, p273, l27⟩ := Ka_12.out.use4; obtain ⟨p280, p281, p282, p283, l28⟩ := Kp_12.out.use4; obtain ⟨p290, p291, p292, p293, l29⟩ := Kq_12.out.use4; obtain ⟨p300, p301, p302, p303, l30⟩ := Kf_12.out.use4)
      | (go_at_call 37; have _t := tok6; clear _t tok6; ((with_reducible refine Calls.mono ((rfrac_q (lq' HQ.out (by first | exact x_12.out | exact x_12.out.drew_ | exact x_12.out.alloc_ _ | exact (x_12.out.alloc_ _).drew_)) (by omega) (by omega))) ?_)); rintro e w13 ⟨v, rfl, h, hb⟩; rw [HF.out] at h; have hk := h; obtain ⟨b13, A13, n13, c13, d13, B13, m13, k13, rfl, -, -, -, -, -⟩ := h.form; clear h; have hB := (show Below w12.heap.size w12 w13 from by first | exact hb | exact bundrew hb | exact bun hb | exact bundrew (bun hb) | exact bun (bundrew hb)); have x_13 := Lib.hid (x_12.out.below hB); have ox_13 := Lib.hid (ox_12.out.below hB); have oy_13 := Lib.hid (oy_12.out.below hB); have fr_13 := Lib.hid (fr_12.out.below hB); have Ka_13 := Lib.hid (Ka_12.out.below hB); have Kp_13 := Lib.hid (Kp_12.out.below hB); have Kq_13 := Lib.hid (Kq_12.out.below hB); have Kf_13 := Lib.hid (Kf_12.out.below hB); have v_13 := Lib.hid (hk); have HB_13 := Lib.hid (below_trans HB_12.out hB); have hs_13 : w.heap.size ≤ w13.heap.size := HB_13.out.size; have hz_13 : w12.heap.size + 0 ≤ w13.heap.size := (by have h := hb.size; (try simp at h); omega); clear hB hb x_12 ox_12 oy_12 fr_12 Ka_12 Kp_12 Kq_12 Kf_12 HB_12 p270 p271 p272 p273 l27 p280 p281 p282 p283 l28 p290 p291 p292 p293 l29 p300 p301 p302 p303 l30; obtain ⟨p310, p311, p312, p313, l31⟩ := Ka_13.out.use4; obtain ⟨p320, p321, p322, p323, l32⟩ := Kp_13.out.use4; obtain ⟨p330, p331, p332, p333, l33⟩ := Kq_13.out.use4; obtain ⟨p340, p341, p342, p343, l34⟩ := Kf_13.out.use4)
      | (go_at_call 18; have _t := tok7; clear _t tok7; ((with_reducible refine Calls.mono (rat_same (by first | exact fr_13.out | exact fr_13.out.drew_ | exact fr_13.out.alloc_ _ | exact (fr_13.out.alloc_ _).drew_) (by first | exact v_13.out | exact v_13.out.drew_ | exact v_13.out.alloc_ _ | exact (v_13.out.alloc_ _).drew_) BF.out (by omega)) ?_)); rintro e w14 ⟨rfl, hb⟩; have hB := (show Below w13.heap.size w13 w14 from by first | exact hb | exact bundrew hb | exact bun hb | exact bundrew (bun hb) | exact bun (bundrew hb)); have x_14 := Lib.hid (x_13.out.below hB); have ox_14 := Lib.hid (ox_13.out.below hB); have oy_14 := Lib.hid (oy_13.out.below hB); have fr_14 := Lib.hid (fr_13.out.below hB); have Ka_14 := Lib.hid (Ka_13.out.below hB); have Kp_14 := Lib.hid (Kp_13.out.below hB); have Kq_14 := Lib.hid (Kq_13.out.below hB); have Kf_14 := Lib.hid (Kf_13.out.below hB); have HB_14 := Lib.hid (below_trans HB_13.out hB); have hs_14 : w.heap.size ≤ w14.heap.size := HB_14.out.size; have hz_14 : w13.heap.size + 0 ≤ w14.heap.size := (by have h := hb.size; (try simp at h); omega); clear hB hb x_13 ox_13 oy_13 fr_13 v_13 Ka_13 Kp_13 Kq_13 Kf_13 HB_13 p310 p311 p312 p313 l31 p320 p321 p322 p323 l32 p330 p331 p332 p333 l33 p340 p341 p342 p343 l34; obtain ⟨p350, p351, p352, p353, l35⟩ := Ka_14.out.use4; obtain ⟨p360, p361, p362, p363, l36⟩ := Kp_14.out.use4; obtain ⟨p370, p371, p372, p373, l37⟩ := Kq_14.out.use4; obtain ⟨p380, p381, p382, p383, l38⟩ := Kf_14.out.use4)
      | (go_at_call 18; have _t := tok8; clear _t tok8; ((with_reducible refine Calls.mono (rat_same (by first | exact ox_14.out | exact ox_14.out.drew_ | exact ox_14.out.alloc_ _ | exact (ox_14.out.alloc_ _).drew_) (by first | exact oy_14.out | exact oy_14.out.drew_ | exact oy_14.out.alloc_ _ | exact (oy_14.out.alloc_ _).drew_) BY.out (by omega)) ?_)); rintro e w15 ⟨rfl, hb⟩; have hB := (show Below w14.heap.size w14 w15 from by first | exact hb | exact bundrew hb | exact bun hb | exact bundrew (bun hb) | exact bun (bundrew hb)); have x_15 := Lib.hid (x_14.out.below hB); have fr_15 := Lib.hid (fr_14.out.below hB); have Ka_15 := Lib.hid (Ka_14.out.below hB); have Kp_15 := Lib.hid (Kp_14.out.below hB); have Kq_15 := Lib.hid (Kq_14.out.below hB); have Kf_15 := Lib.hid (Kf_14.out.below hB); have HB_15 := Lib.hid (below_trans HB_14.out hB); have hs_15 : w.heap.size ≤ w15.heap.size := HB_15.out.size; have hz_15 : w14.heap.size + 0 ≤ w15.heap.size := (by have h := hb.size; (try simp at h); omega); clear hB hb x_14 ox_14 oy_14 fr_14 Ka_14 Kp_14 Kq_14 Kf_14 HB_14 p350 p351 p352 p353 l35 p360 p361 p362 p363 l36 p370 p371 p372 p373 l37 p380 p381 p382 p383 l38; obtain ⟨p390, p391, p392, p393, l39⟩ := Ka_15.out.use4; obtain ⟨p400, p401, p402, p403, l40⟩ := Kp_15.out.use4; obtain ⟨p410, p411, p412, p413, l41⟩ := Kq_15.out.use4; obtain ⟨p420, p421, p422, p423, l42⟩ := Kf_15.out.use4))
  go_wp2_with fail
  refine Calls.mono (of_one' _) ?_
  rintro e w16 ⟨v, rfl, h, hb⟩
  have hk := h
  obtain ⟨b16, A16, n16, c16, d16, B16, m16, k16, rfl, -, -, -, -, -⟩ := h.form
  clear h
  have hB := hb
  have x_16 := Lib.hid (x_15.out.below hB)
  have fr_16 := Lib.hid (fr_15.out.below hB)
  have Ka_16 := Lib.hid (Ka_15.out.below hB)
  have Kp_16 := Lib.hid (Kp_15.out.below hB)
  have Kq_16 := Lib.hid (Kq_15.out.below hB)
  have Kf_16 := Lib.hid (Kf_15.out.below hB)
  have one_16 := Lib.hid (hk)
  have HB_16 := Lib.hid (below_trans HB_15.out hB)
  have hs_16 : w.heap.size ≤ w16.heap.size := HB_16.out.size
  have hz_16 : w15.heap.size + 0 ≤ w16.heap.size := (by have h := hb.size; (try simp at h); omega)
  clear hB hb x_15 fr_15 Ka_15 Kp_15 Kq_15 Kf_15 HB_15 p390 p391 p392 p393 l39 p400 p401 p402 p403 l40 p410 p411 p412 p413 l41 p420 p421 p422 p423 l42
  go_wp2
  generalize hW : (w16.alloc (.cells #[.bool b16, .slice A16 n16 c16, .bool d16, .slice B16 m16 k16] 26)) = w17
  have x_17 := Lib.hid (hW ▸ (x_16.out.alloc_ _))
  have fr_17 := Lib.hid (hW ▸ (fr_16.out.alloc_ _))
  have one_17 := Lib.hid (hW ▸ (one_16.out.alloc_ _))
  have Ka_17 := Lib.hid (show Blk w17 (w.heap.size) 26 #[.bool b00, .slice a00 n00 c00, .bool e00, .slice g00 m00 k00] from by rw [← hW]; exact (Ka_16.out.alloc_ _))
  have Kp_17 := Lib.hid (show Blk w17 (w3.heap.size) 26 #[.bool b3, .slice A3 n3 c3, .bool d3, .slice B3 m3 k3] from by rw [← hW]; exact (Kp_16.out.alloc_ _))
  have Kq_17 := Lib.hid (show Blk w17 (w4.heap.size) 26 #[.bool b4, .slice A4 n4 c4, .bool d4, .slice B4 m4 k4] from by rw [← hW]; exact (Kq_16.out.alloc_ _))
  have Kf_17 := Lib.hid (show Blk w17 (w5.heap.size) 26 #[.bool b5, .slice A5 n5 c5, .bool d5, .slice B5 m5 k5] from by rw [← hW]; exact (Kf_16.out.alloc_ _))
  have Ko_17 := Lib.hid (show Blk w17 (w16.heap.size) 26 #[.bool b16, .slice A16 n16 c16, .bool d16, .slice B16 m16 k16] from by rw [← hW]; exact Blk.new _ _ (by simp) _ _)
  have HB_17 := Lib.hid (show Below w.heap.size w w17 from by rw [← hW]; exact halloc (HB_16.out))
  have hs_17 : w.heap.size ≤ w17.heap.size := HB_17.out.size
  have hz_17 : w16.heap.size + 1 ≤ w17.heap.size := by rw [← hW]; simp
  clear hW x_16 fr_16 one_16 Ka_16 Kp_16 Kq_16 Kf_16 HB_16
  obtain ⟨p430, p431, p432, p433, l43⟩ := Kf_17.out.use4
  obtain ⟨p440, p441, p442, p443, l44⟩ := Ko_17.out.use4
  have tok0 : True := trivial
  have tok1 : True := trivial
  have tok2 : True := trivial
  go_region_held3 (fun w' => w'.cell? ⟨w5.heap.size, 0, none⟩ = some (.bool b5) ∧ w'.cell? ⟨w5.heap.size, 1, none⟩ = some (.slice A5 n5 c5) ∧ w'.cell? ⟨w5.heap.size, 2, none⟩ = some (.bool d5) ∧ w'.cell? ⟨w5.heap.size, 3, none⟩ = some (.slice B5 m5 k5) ∧ w'.cell? ⟨w16.heap.size, 0, none⟩ = some (.bool b16) ∧ w'.cell? ⟨w16.heap.size, 1, none⟩ = some (.slice A16 n16 c16) ∧ w'.cell? ⟨w16.heap.size, 2, none⟩ = some (.bool d16) ∧ w'.cell? ⟨w16.heap.size, 3, none⟩ = some (.slice B16 m16 k16)) (first | (refine ⟨?_, ?_, ?_, ?_, ?_, ?_, ?_, ?_⟩ <;> (first | with_reducible assumption | ((with_reducible refine Eq.trans (cell_drew _ _) ?_); with_reducible assumption) | ((rw [cell_far4 _ _ _ _ _ _ _ _ (by omega)]); with_reducible assumption) | ((repeat rw [cell_far2 _ _ _ _ _ _ (by omega)]); with_reducible assumption) | go_keep)) | trivial | go_keep)
    (first
      | (go_at_call 38; have _t := tok0; clear _t tok0; ((with_reducible refine Calls.mono (rzero_any _) ?_)); rintro e w18 ⟨v, rfl, h, hb⟩; have hk := h; obtain ⟨b18, A18, n18, c18, d18, B18, m18, k18, rfl, -, -, -, -, -⟩ := h.form; clear h; have hB := (show Below w17.heap.size w17 w18 from by first | exact hb | exact bundrew hb | exact bun hb | exact bundrew (bun hb) | exact bun (bundrew hb)); have x_18 := Lib.hid (x_17.out.below hB); have fr_18 := Lib.hid (fr_17.out.below hB); have one_18 := Lib.hid (one_17.out.below hB); have Ka_18 := Lib.hid (Ka_17.out.below hB); have Kp_18 := Lib.hid (Kp_17.out.below hB); have Kq_18 := Lib.hid (Kq_17.out.below hB); have Kf_18 := Lib.hid (Kf_17.out.below hB); have Ko_18 := Lib.hid (Ko_17.out.below hB); have z_18 := Lib.hid (hk); have HB_18 := Lib.hid (below_trans HB_17.out hB); have hs_18 : w.heap.size ≤ w18.heap.size := HB_18.out.size; have hz_18 : w17.heap.size + 0 ≤ w18.heap.size := (by have h := hb.size; (try simp at h); omega); clear hB hb x_17 fr_17 one_17 Ka_17 Kp_17 Kq_17 Kf_17 Ko_17 HB_17 p430 p431 p432 p433 l43 p440 p441 p442 p443 l44; obtain ⟨p450, p451, p452, p453, l45⟩ := Kf_18.out.use4; obtain ⟨p460, p461, p462, p463, l46⟩ := Ko_18.out.use4)
      | (go_at_call 21; have _t := tok1; clear _t tok1; ((with_reducible refine Calls.mono (qcmp_is HS.out (irq' BF.out (by first | exact fr_18.out | exact fr_18.out.drew_ | exact fr_18.out.alloc_ _ | exact (fr_18.out.alloc_ _).drew_)) (irq' BZ.out (by first | exact z_18.out | exact z_18.out.drew_ | exact z_18.out.alloc_ _ | exact (z_18.out.alloc_ _).drew_)) (by omega) (by omega) (by omega) (by omega)) ?_)); rintro e w19 ⟨rfl, hb⟩; have hB := (show Below w18.heap.size w18 w19 from by first | exact hb | exact bundrew hb | exact bun hb | exact bundrew (bun hb) | exact bun (bundrew hb)); have x_19 := Lib.hid (x_18.out.below hB); have fr_19 := Lib.hid (fr_18.out.below hB); have one_19 := Lib.hid (one_18.out.below hB); have Ka_19 := Lib.hid (Ka_18.out.below hB); have Kp_19 := Lib.hid (Kp_18.out.below hB); have Kq_19 := Lib.hid (Kq_18.out.below hB); have Kf_19 := Lib.hid (Kf_18.out.below hB); have Ko_19 := Lib.hid (Ko_18.out.below hB); have HB_19 := Lib.hid (below_trans HB_18.out hB); have hs_19 : w.heap.size ≤ w19.heap.size := HB_19.out.size; have hz_19 : w18.heap.size + 0 ≤ w19.heap.size := (by have h := hb.size; (try simp at h); omega); clear hB hb x_18 fr_18 one_18 z_18 Ka_18 Kp_18 Kq_18 Kf_18 Ko_18 HB_18 p450 p451 p452 p453 l45 p460 p461 p462 p463 l46; obtain ⟨p470, p471, p472, p473, l47⟩ := Kf_19.out.use4; obtain ⟨p480, p481, p482, p483, l48⟩ := Ko_19.out.use4)
      | (go_at_call 21; have _t := tok2; clear _t tok2; ((with_reducible refine Calls.mono (qcmp_is HT.out (irq' BF.out (by first | exact fr_19.out | exact fr_19.out.drew_ | exact fr_19.out.alloc_ _ | exact (fr_19.out.alloc_ _).drew_)) (irq' BO.out (by first | exact one_19.out | exact one_19.out.drew_ | exact one_19.out.alloc_ _ | exact (one_19.out.alloc_ _).drew_)) (by omega) (by omega) (by omega) (by omega)) ?_)); rintro e w20 ⟨rfl, hb⟩; have hB := (show Below w19.heap.size w19 w20 from by first | exact hb | exact bundrew hb | exact bun hb | exact bundrew (bun hb) | exact bun (bundrew hb)); have x_20 := Lib.hid (x_19.out.below hB); have fr_20 := Lib.hid (fr_19.out.below hB); have one_20 := Lib.hid (one_19.out.below hB); have Ka_20 := Lib.hid (Ka_19.out.below hB); have Kp_20 := Lib.hid (Kp_19.out.below hB); have Kq_20 := Lib.hid (Kq_19.out.below hB); have Kf_20 := Lib.hid (Kf_19.out.below hB); have Ko_20 := Lib.hid (Ko_19.out.below hB); have HB_20 := Lib.hid (below_trans HB_19.out hB); have hs_20 : w.heap.size ≤ w20.heap.size := HB_20.out.size; have hz_20 : w19.heap.size + 0 ≤ w20.heap.size := (by have h := hb.size; (try simp at h); omega); clear hB hb x_19 fr_19 one_19 Ka_19 Kp_19 Kq_19 Kf_19 Ko_19 HB_19 p470 p471 p472 p473 l47 p480 p481 p482 p483 l48; obtain ⟨p490, p491, p492, p493, l49⟩ := Kf_20.out.use4; obtain ⟨p500, p501, p502, p503, l50⟩ := Ko_20.out.use4))
  go_wp2
  go_ret
  exact ⟨by simp, HB_20.out⟩

theorem rounds_any (b00 : Bool) (a00 : Option Addr) (n00 c00 : Nat) (e00 : Bool) (g00 : Option Addr) (m00 k00 : Nat) (N D : Int) (w : World) (w0 : n00 ≤ 4 → m00 ≤ 4 → ∃ q, LimQ 4 w ((.agg #[.bool b00, .slice a00 n00 c00, .bool e00, .slice g00 m00 k00])) q) (h1 : -9223372036854775808 ≤ N) (h2 : N ≤ 9223372036854775807) (h3 : -9223372036854775808 ≤ D) (h4 : D ≤ 9223372036854775807) :
    Calls Tryz.prog 4 #[(.agg #[.bool b00, .slice a00 n00 c00, .bool e00, .slice g00 m00 k00]), .int .i64 N, .int .i64 D] w fun e w' => e = .returned (.bool true) ∧ Below w.heap.size w w' := by
  cases h0 : (decide (n00 ≤ 4) && decide (m00 ≤ 4))
  · exact rounds_no b00 a00 n00 c00 e00 g00 m00 k00 N D w h0
  · have e0 := h0
    rw [Bool.and_eq_true, decide_eq_true_eq, decide_eq_true_eq] at e0
    obtain ⟨q, X, Y, hx, -⟩ := w0 e0.1 e0.2
    rcases (frac_cmp (ratOf X Y)).1 with hs | hs
    · exact rounds_yes0 b00 a00 n00 c00 e00 g00 m00 k00 N D w X Y hx h1 h2 h3 h4 h0 hs
    · exact rounds_yes1 b00 a00 n00 c00 e00 g00 m00 k00 N D w X Y hx h1 h2 h3 h4 h0 hs
end Go.Proofs.YtglcififcldchaaGreatDoor
