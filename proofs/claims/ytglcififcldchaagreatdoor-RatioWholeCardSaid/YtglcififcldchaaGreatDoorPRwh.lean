/- RatioWhole: the walk. -/
import Derived.Test.YtglcififcldchaaGreatDoorPRbt
namespace Go.Proofs.YtglcififcldchaaGreatDoor
open Go.RowKit
attribute [local go_sem ↓] Go.wp_at_zero Go.wp_at_succ
set_option linter.unusedVariables false

theorem floor_uniq {y : Rat} {n : Int} (h1 : (n : Rat) ≤ y) (h2 : y < (n : Rat) + 1) : y.floor = n := by
  have a : n ≤ y.floor := Rat.le_floor_iff.2 h1
  have b : y.floor < n + 1 := by
    by_cases h : y.floor < n + 1
    · exact h
    · have c := Rat.le_floor_iff.1 (Int.not_lt.1 h)
      rw [Rat.intCast_add] at c
      grind
  omega
theorem ceil_ge (x : Rat) : x ≤ (ceilQ x : Rat) ∧ (ceilQ x : Rat) < x + 1 := by
  have h1 : (x.floor : Rat) ≤ x := Rat.floor_le x
  have h2 : x - 1 < (x.floor : Rat) := Rat.lt_floor
  unfold ceilQ
  split
  · rename_i h
    constructor <;> grind
  · rename_i h
    rw [Rat.intCast_add]
    constructor <;> grind
theorem floor_minus (x : Rat) : (0 - x).floor = -ceilQ x := by
  have h := ceil_ge x
  apply floor_uniq
  · rw [Rat.intCast_neg]; grind
  · rw [Rat.intCast_neg]; grind
theorem floor_cmp (x : Rat) : cmpQ (x.floor : Rat) x ≤ 0 := by
  have h1 : (x.floor : Rat) ≤ x := Rat.floor_le x
  unfold cmpQ; grind
theorem ceil_cmp (x : Rat) : 0 ≤ cmpQ (ceilQ x : Rat) x := by
  have h1 := (ceil_ge x).1
  unfold cmpQ; grind
theorem ceil_floor0 {x : Rat} (h : cmpQ (x - (x.floor : Rat)) 0 = 0) : (ceilQ x : Rat) - (x.floor : Rat) = 0 := by
  have : x - (x.floor : Rat) = 0 := by unfold cmpQ at h; grind
  unfold ceilQ
  rw [if_pos this]
  grind
theorem ceil_floor1 {x : Rat} (h : cmpQ (x - (x.floor : Rat)) 0 = 1) : (ceilQ x : Rat) - (x.floor : Rat) = 1 := by
  have : ¬ x - (x.floor : Rat) = 0 := by unfold cmpQ at h; grind
  unfold ceilQ
  rw [if_neg this, Rat.intCast_add]
  grind
theorem frac_cmp01 (x : Rat) : cmpQ (x - (x.floor : Rat)) 0 = 0 ∨ cmpQ (x - (x.floor : Rat)) 0 = 1 := by
  have h1 : (x.floor : Rat) ≤ x := Rat.floor_le x
  generalize (x.floor : Rat) = y at *
  unfold cmpQ
  grind
theorem ceil_ltW {k : Nat} {x : Rat} (h : BQ k x) : (ceilQ x).natAbs < 4294967296 ^ (k + 2) := by
  have h1 := floor_lt h
  unfold ceilQ
  split
  · exact Nat.lt_of_lt_of_le h1 (Nat.pow_le_pow_right (by omega) (by omega))
  · exact i_add h1 (k := k + 1) (m := 0 + 1) (Y := 1) (by decide) (k + 2) (by omega) (by omega)
theorem bq_fracW {k : Nat} {x : Rat} (h : BQ k x) : BQ k (x - (x.floor : Rat)) := by
  have hd := den_pos' x
  have e := frac_divInt (X := x.num) hd
  rw [Rat.num_divInt_den] at e
  rw [← e]
  have h2 := h.2
  have m1 := Int.emod_nonneg x.num (b := (x.den : Int)) (by omega)
  have m2 := Int.emod_lt_of_pos x.num hd
  exact divInt_bq hd (show (x.num % (x.den : Int)).natAbs < 4294967296 ^ k by omega) (show (x.den : Int).natAbs < 4294967296 ^ k from h2) (Nat.le_refl _) (Nat.le_refl _)
theorem bq_int {k : Nat} {z : Int} (h : z.natAbs < 4294967296 ^ k) (hk : 1 ≤ k) : BQ k (z : Rat) :=
  ⟨by rw [Rat.num_intCast]; exact h, by rw [Rat.den_intCast]; exact Nat.one_lt_pow (by omega) (by decide)⟩
theorem israt_int {w : World} {b : Bool} {m : Value} {c : Bool} {n : Value} {d : Bool} {u : Value} {z : Int} (h : IsInt w (.agg #[.bool b, m]) z) (h0 : IsRat w (.agg #[.bool c, n, .bool d, u]) 0) : IsRat w (.agg #[.bool b, m, .bool d, u]) (z : Rat) := by
  obtain ⟨_, _, _, _, e, _, h2⟩ := h0
  injection e with e
  injection e with e
  simp at e
  obtain ⟨rfl, rfl, rfl, rfl⟩ := e
  exact ⟨_, _, _, _, rfl, by rw [Rat.num_intCast]; exact h, by rw [Rat.den_intCast]; exact h2⟩
theorem of_oneW (w : World) : Calls Tryz.prog 29 #[.int .i64 1, .int .i64 1] w fun e w' => RatOfPost w w' e 1 true := by
  have := of_q 1 1 w (by omega) (by omega) (by omega) (by omega)
  rw [show Rat.divInt 1 1 = 1 from by decide, show decide ((1 : Int) ≠ 0) = true from rfl] at this
  exact this

set_option maxRecDepth 100000 in
set_option maxHeartbeats 2000000 in
theorem whole_no (b00 : Bool) (a00 : Option Addr) (n00 c00 : Nat) (e00 : Bool) (g00 : Option Addr) (m00 k00 : Nat) (w : World) (h0 : (decide (n00 ≤ 4) && decide (m00 ≤ 4)) = false) :
    Calls Tryz.prog 9 #[(.agg #[.bool b00, .slice a00 n00 c00, .bool e00, .slice g00 m00 k00])] w fun e w' => e = .returned (.bool true) ∧ Below w.heap.size w w' := by
  have F0 := Lib.hid h0
  clear h0
  go_enter Tryz.func9, Tryz.ntmps9
  go_wp2_with fail
  refine Calls.mono (awake3 _) ?_
  rintro e w1 ⟨rfl, hb⟩
  have hB := bun (hb)
  have Ka_1 := Lib.hid (show Blk w1 (w.heap.size) 26 #[.bool b00, .slice a00 n00 c00, .bool e00, .slice g00 m00 k00] from (Blk.new _ _ (by simp) _ _).below hb)
  have HB_1 := Lib.hid (hB)
  have hs_1 : w.heap.size ≤ w1.heap.size := HB_1.out.size
  have hz_1 : w.heap.size + 1 ≤ w1.heap.size := (by have h := hb.size; (try simp at h); omega)
  clear hB hb 
  obtain ⟨p10, p11, p12, p13, l1⟩ := Ka_1.out.use4
  go_wp2_with fail
  refine Calls.mono (few_is _ _ _ _ _ _ _ _ _ false F0.out) ?_
  rintro e w2 ⟨rfl, hb⟩
  have hB := hb
  have Ka_2 := Lib.hid (Ka_1.out.below hB)
  have HB_2 := Lib.hid (below_trans HB_1.out hB)
  have hs_2 : w.heap.size ≤ w2.heap.size := HB_2.out.size
  have hz_2 : w1.heap.size + 0 ≤ w2.heap.size := (by have h := hb.size; (try simp at h); omega)
  clear hB hb Ka_1 HB_1 p10 p11 p12 p13 l1
  go_wp2
  go_ret
  exact ⟨rfl, HB_2.out⟩
def WCutF (w : World) (b00 : Bool) (a00 : Option Addr) (n00 c00 : Nat) (e00 : Bool) (g00 : Option Addr) (m00 k00 : Nat) (b3 : Bool) (A3 : Option Addr) (n3 c3 : Nat) (d3 : Bool) (B3 : Option Addr) (m3 k3 : Nat) (X Y : Int) (p : Int) (gz : Nat) (s : Value) (wx : World) : Prop :=
  ∃ gq bq Aq nq cq, s = .pointer (some ⟨gq, 0, none⟩) ∧ w.heap.size < gq ∧ LimR 4 wx (.agg #[.bool b00, .slice a00 n00 c00, .bool e00, .slice g00 m00 k00]) X Y ∧ IsRat wx (.agg #[.bool b3, .slice A3 n3 c3, .bool d3, .slice B3 m3 k3]) 0 ∧ IsRat wx (.agg #[.bool bq, .slice Aq nq cq, .bool d3, .slice B3 m3 k3]) (p : Rat) ∧ Blk wx gq 26 #[.bool bq, .slice Aq nq cq, .bool d3, .slice B3 m3 k3] ∧ Blk wx w.heap.size 26 #[.bool b00, .slice a00 n00 c00, .bool e00, .slice g00 m00 k00] ∧ Blk wx gz 26 #[.bool b3, .slice A3 n3 c3, .bool d3, .slice B3 m3 k3] ∧ Below w.heap.size w wx
def WCutC (w : World) (b00 : Bool) (a00 : Option Addr) (n00 c00 : Nat) (e00 : Bool) (g00 : Option Addr) (m00 k00 : Nat) (b3 : Bool) (A3 : Option Addr) (n3 c3 : Nat) (d3 : Bool) (B3 : Option Addr) (m3 k3 : Nat) (b5 : Bool) (A5 : Option Addr) (n5 c5 : Nat) (X Y : Int) (p c : Int) (gz gf : Nat) (s : Value) (wx : World) : Prop :=
  ∃ gq bq Aq nq cq, s = .pointer (some ⟨gq, 0, none⟩) ∧ w.heap.size < gq ∧ LimR 4 wx (.agg #[.bool b00, .slice a00 n00 c00, .bool e00, .slice g00 m00 k00]) X Y ∧ IsRat wx (.agg #[.bool b3, .slice A3 n3 c3, .bool d3, .slice B3 m3 k3]) 0 ∧ IsRat wx (.agg #[.bool b5, .slice A5 n5 c5, .bool d3, .slice B3 m3 k3]) (p : Rat) ∧ IsRat wx (.agg #[.bool bq, .slice Aq nq cq, .bool d3, .slice B3 m3 k3]) (c : Rat) ∧ Blk wx gq 26 #[.bool bq, .slice Aq nq cq, .bool d3, .slice B3 m3 k3] ∧ Blk wx w.heap.size 26 #[.bool b00, .slice a00 n00 c00, .bool e00, .slice g00 m00 k00] ∧ Blk wx gz 26 #[.bool b3, .slice A3 n3 c3, .bool d3, .slice B3 m3 k3] ∧ Blk wx gf 26 #[.bool b5, .slice A5 n5 c5, .bool d3, .slice B3 m3 k3] ∧ Below w.heap.size w wx
def WCutG (w : World) (b00 : Bool) (a00 : Option Addr) (n00 c00 : Nat) (e00 : Bool) (g00 : Option Addr) (m00 k00 : Nat) (b3 : Bool) (A3 : Option Addr) (n3 c3 : Nat) (d3 : Bool) (B3 : Option Addr) (m3 k3 : Nat) (b5 : Bool) (A5 : Option Addr) (n5 c5 : Nat) (b7 : Bool) (A7 : Option Addr) (n7 c7 : Nat) (b8 : Bool) (A8 : Option Addr) (n8 c8 : Nat) (d8 : Bool) (B8 : Option Addr) (m8 k8 : Nat) (b9 : Bool) (A9 : Option Addr) (n9 c9 : Nat) (d9 : Bool) (B9 : Option Addr) (m9 k9 : Nat) (X Y : Int) (p c gg : Int) (y : Rat) (gz gf gc gm go : Nat) (s : Value) (wx : World) : Prop :=
  ∃ gq bq Aq nq cq, s = .pointer (some ⟨gq, 0, none⟩) ∧ w.heap.size < gq ∧ LimR 4 wx (.agg #[.bool b00, .slice a00 n00 c00, .bool e00, .slice g00 m00 k00]) X Y ∧ IsRat wx (.agg #[.bool b3, .slice A3 n3 c3, .bool d3, .slice B3 m3 k3]) 0 ∧ IsRat wx (.agg #[.bool b5, .slice A5 n5 c5, .bool d3, .slice B3 m3 k3]) (p : Rat) ∧ IsRat wx (.agg #[.bool b7, .slice A7 n7 c7, .bool d3, .slice B3 m3 k3]) (c : Rat) ∧ IsRat wx (.agg #[.bool b9, .slice A9 n9 c9, .bool d9, .slice B9 m9 k9]) 1 ∧ IsRat wx (.agg #[.bool bq, .slice Aq nq cq, .bool d3, .slice B3 m3 k3]) (gg : Rat) ∧ Blk wx gq 26 #[.bool bq, .slice Aq nq cq, .bool d3, .slice B3 m3 k3] ∧ Blk wx w.heap.size 26 #[.bool b00, .slice a00 n00 c00, .bool e00, .slice g00 m00 k00] ∧ Blk wx gz 26 #[.bool b3, .slice A3 n3 c3, .bool d3, .slice B3 m3 k3] ∧ Blk wx gf 26 #[.bool b5, .slice A5 n5 c5, .bool d3, .slice B3 m3 k3] ∧ Blk wx gc 26 #[.bool b7, .slice A7 n7 c7, .bool d3, .slice B3 m3 k3] ∧ Blk wx gm 26 #[.bool b8, .slice A8 n8 c8, .bool d8, .slice B8 m8 k8] ∧ Blk wx go 26 #[.bool b9, .slice A9 n9 c9, .bool d9, .slice B9 m9 k9] ∧ Below w.heap.size w wx

set_option maxRecDepth 100000 in
set_option maxHeartbeats 1500000 in
theorem whole_yes0 (b00 : Bool) (a00 : Option Addr) (n00 c00 : Nat) (e00 : Bool) (g00 : Option Addr) (m00 k00 : Nat) (w : World) (X Y : Int) (hx : LimR 4 w (.agg #[.bool b00, .slice a00 n00 c00, .bool e00, .slice g00 m00 k00]) X Y) (h0 : (decide (n00 ≤ 4) && decide (m00 ≤ 4)) = true) (hs : cmpQ (ratOf X Y - ((ratOf X Y).floor : Rat)) 0 = 0) :
    Calls Tryz.prog 9 #[(.agg #[.bool b00, .slice a00 n00 c00, .bool e00, .slice g00 m00 k00])] w fun e w' => e = .returned (.bool true) ∧ Below w.heap.size w w' := by
  have F0 := Lib.hid h0
  obtain ⟨x, hq⟩ : ∃ q, q = ratOf X Y := ⟨_, rfl⟩
  rw [← hq] at hs
  have BX := Lib.hid ((lq hq hx).bq (by omega))
  have BZ : Hid (BQ 1 (0 : Rat)) := bq_chk (by decide)
  have BO : Hid (BQ 1 (1 : Rat)) := bq_chk (by decide)
  have hcf := ceil_floor0 hs
  have h1 := floor_cmp x
  have h2 := ceil_cmp x
  have h3 := floor_minus x
  obtain ⟨f, hf⟩ : ∃ f, x - (x.floor : Rat) = f := ⟨_, rfl⟩
  have BF := Lib.hid (hf ▸ bq_fracW BX.out)
  have CC := ceil_ltW BX.out
  have PC := floor_lt BX.out
  rw [hf] at hs
  obtain ⟨c, hc⟩ : ∃ c, ceilQ x = c := ⟨_, rfl⟩
  obtain ⟨p, hp⟩ : ∃ p, x.floor = p := ⟨_, rfl⟩
  obtain ⟨y, hy⟩ : ∃ y, 0 - x = y := ⟨_, rfl⟩
  rw [hc] at hcf h2 h3 CC
  rw [hp] at hcf h1 PC
  rw [hy] at h3
  obtain ⟨c1, e1⟩ : ∃ c1, cmpQ (p : Rat) x = c1 := ⟨_, rfl⟩
  obtain ⟨c2, e2⟩ : ∃ c2, cmpQ (c : Rat) x = c2 := ⟨_, rfl⟩
  rw [e1] at h1
  rw [e2] at h2
  have g1 : decide ((0 : Int) < c1) = false := by rw [decide_eq_false_iff_not]; omega
  have g2 : decide (c2 < (0 : Int)) = false := by rw [decide_eq_false_iff_not]; omega
  obtain ⟨gg, hg⟩ : ∃ gg, y.floor = gg := ⟨_, rfl⟩
  have BY := Lib.hid (hy ▸ bq_sub BZ.out BX.out)
  have BP := Lib.hid (bq_int PC (by omega))
  have BC := Lib.hid (bq_int CC (by omega))
  have BG := Lib.hid (bq_int (k := 6) (z := gg) (by rw [← hg, h3, Int.natAbs_neg]; exact CC) (by omega))
  have EG : Hid ((0 : Rat) - (c : Rat) = (gg : Rat)) := by
    show _ = _
    rw [← hg, h3, Rat.intCast_neg]
    grind
  have HCF := Lib.hid hcf
  have HE1 := Lib.hid e1
  have HE2 := Lib.hid e2
  have HG := Lib.hid hg
  have HY := Lib.hid hy
  have HS := Lib.hid hs
  have HF := Lib.hid hf
  have HC := Lib.hid hc
  have HP := Lib.hid hp
  have HQ := Lib.hid hq
  have x_0 := Lib.hid hx
  clear h0 hq hy hs hf hc hp hx hg e1 e2 hcf h3 CC PC
  go_enter Tryz.func9, Tryz.ntmps9
  go_wp2_with fail
  refine Calls.mono (awake3 _) ?_
  rintro e w1 ⟨rfl, hb⟩
  have hB := bun (hb)
  have x_1 := Lib.hid (x_0.out.below hB)
  have Ka_1 := Lib.hid (show Blk w1 (w.heap.size) 26 #[.bool b00, .slice a00 n00 c00, .bool e00, .slice g00 m00 k00] from (Blk.new _ _ (by simp) _ _).below hb)
  have HB_1 := Lib.hid (hB)
  have hs_1 : w.heap.size ≤ w1.heap.size := HB_1.out.size
  have hz_1 : w.heap.size + 1 ≤ w1.heap.size := (by have h := hb.size; (try simp at h); omega)
  clear hB hb x_0
  obtain ⟨p10, p11, p12, p13, l1⟩ := Ka_1.out.use4
  go_wp2_with fail
  refine Calls.mono (few_is _ _ _ _ _ _ _ _ _ true F0.out) ?_
  rintro e w2 ⟨rfl, hb⟩
  have hB := hb
  have x_2 := Lib.hid (x_1.out.below hB)
  have Ka_2 := Lib.hid (Ka_1.out.below hB)
  have HB_2 := Lib.hid (below_trans HB_1.out hB)
  have hs_2 : w.heap.size ≤ w2.heap.size := HB_2.out.size
  have hz_2 : w1.heap.size + 0 ≤ w2.heap.size := (by have h := hb.size; (try simp at h); omega)
  clear hB hb x_1 Ka_1 HB_1 p10 p11 p12 p13 l1
  go_wp2_with fail
  refine Calls.mono (rzero_any _) ?_
  rintro e w3 ⟨v, rfl, h, hb⟩
  have hk := h
  obtain ⟨b3, A3, n3, c3, d3, B3, m3, k3, rfl, -, -, -, -, -⟩ := h.form
  clear h
  have hB := hb
  have x_3 := Lib.hid (x_2.out.below hB)
  have Ka_3 := Lib.hid (Ka_2.out.below hB)
  have z_3 := Lib.hid (hk)
  have HB_3 := Lib.hid (below_trans HB_2.out hB)
  have hs_3 : w.heap.size ≤ w3.heap.size := HB_3.out.size
  have hz_3 : w2.heap.size + 0 ≤ w3.heap.size := (by have h := hb.size; (try simp at h); omega)
  clear hB hb x_2 Ka_2 HB_2
  go_upto_region 6 with fail
  generalize hW : (w3.alloc (.cells #[.bool b3, .slice A3 n3 c3, .bool d3, .slice B3 m3 k3] 26)) = w4
  have x_4 := Lib.hid (hW ▸ (x_3.out.alloc_ _))
  have z_4 := Lib.hid (hW ▸ (z_3.out.alloc_ _))
  have Ka_4 := Lib.hid (show Blk w4 (w.heap.size) 26 #[.bool b00, .slice a00 n00 c00, .bool e00, .slice g00 m00 k00] from by rw [← hW]; exact (Ka_3.out.alloc_ _))
  have Kz_4 := Lib.hid (show Blk w4 (w3.heap.size) 26 #[.bool b3, .slice A3 n3 c3, .bool d3, .slice B3 m3 k3] from by rw [← hW]; exact Blk.new _ _ (by simp) _ _)
  have HB_4 := Lib.hid (show Below w.heap.size w w4 from by rw [← hW]; exact halloc (HB_3.out))
  have hs_4 : w.heap.size ≤ w4.heap.size := HB_4.out.size
  have hz_4 : w3.heap.size + 1 ≤ w4.heap.size := by rw [← hW]; simp
  clear hW x_3 z_3 Ka_3 HB_3
  go_cut [4] (fun s wx => WCutF w b00 a00 n00 c00 e00 g00 m00 k00 b3 A3 n3 c3 d3 B3 m3 k3 X Y p (w3.heap.size) s wx)
  case first =>
    obtain ⟨p20, p21, p22, p23, l2⟩ := Ka_4.out.use4
    obtain ⟨p30, p31, p32, p33, l3⟩ := Kz_4.out.use4
    have tok0 : True := trivial
    go_region_held3 (fun w' => w'.cell? ⟨w.heap.size, 0, none⟩ = some (.bool b00) ∧ w'.cell? ⟨w.heap.size, 1, none⟩ = some (.slice a00 n00 c00) ∧ w'.cell? ⟨w.heap.size, 2, none⟩ = some (.bool e00) ∧ w'.cell? ⟨w.heap.size, 3, none⟩ = some (.slice g00 m00 k00) ∧ w'.cell? ⟨w3.heap.size, 0, none⟩ = some (.bool b3) ∧ w'.cell? ⟨w3.heap.size, 1, none⟩ = some (.slice A3 n3 c3) ∧ w'.cell? ⟨w3.heap.size, 2, none⟩ = some (.bool d3) ∧ w'.cell? ⟨w3.heap.size, 3, none⟩ = some (.slice B3 m3 k3)) (first | (refine ⟨?_, ?_, ?_, ?_, ?_, ?_, ?_, ?_⟩ <;> (first | with_reducible assumption | ((with_reducible refine Eq.trans (cell_drew _ _) ?_); with_reducible assumption) | ((rw [cell_far4 _ _ _ _ _ _ _ _ (by omega)]); with_reducible assumption) | ((repeat rw [cell_far2 _ _ _ _ _ _ (by omega)]); with_reducible assumption) | go_keep)) | trivial | go_keep)
      (first
        | (go_at_call 33; have _t := tok0; clear _t tok0; ((with_reducible refine Calls.mono (qfloor_is HP.out (lq HQ.out (by first | exact x_4.out | exact x_4.out.drew_ | exact x_4.out.alloc_ _ | exact (x_4.out.alloc_ _).drew_)) (by omega) (by omega)) ?_)); rintro e w5 ⟨v, rfl, h, hb⟩; obtain ⟨b5, A5, n5, c5, rfl, -, -, h⟩ := h.form; have hB := (show Below w4.heap.size w4 w5 from by first | exact hb | exact bundrew hb | exact bun hb | exact bundrew (bun hb) | exact bun (bundrew hb)); have x_5 := Lib.hid (x_4.out.below hB); have z_5 := Lib.hid (z_4.out.below hB); have Ka_5 := Lib.hid (Ka_4.out.below hB); have Kz_5 := Lib.hid (Kz_4.out.below hB); have u_5 := Lib.hid (h); have HB_5 := Lib.hid (below_trans HB_4.out hB); have hs_5 : w.heap.size ≤ w5.heap.size := HB_5.out.size; have hz_5 : w4.heap.size + 0 ≤ w5.heap.size := (by have h := hb.size; (try simp at h); omega); (first | (have K7 := Lib.hid (K7.out.below hB)) | (have K7 := Lib.hid (Blk.below (Blk.new _ _ rfl _ _) hb)) | (have K7 := Lib.hid (Blk.below (Blk.new _ _ rfl _ _).drew_ hb)) | skip); (try (have hg7 := K7.out.lt)); clear hB hb x_4 z_4 Ka_4 Kz_4 HB_4 p20 p21 p22 p23 l2 p30 p31 p32 p33 l3; obtain ⟨p40, p41, p42, p43, l4⟩ := Ka_5.out.use4; obtain ⟨p50, p51, p52, p53, l5⟩ := Kz_5.out.use4; (try (obtain ⟨q0, q1, q2, q3, q4⟩ := K7.out.use4; obtain ⟨q5, q6, q7, q8⟩ := K7.out.into4))))
    all_goals
      go_wp2_with fail
      go_meet
      unfold WCutF
      have hnew := israt_int u_5.out z_5.out
      first
      | (have hk7 := K7.out
         refine ⟨_, _, _, _, _, rfl, ?_, ?_, ?_, ?_, hk7.own4', ?_, ?_, ?_⟩
         · omega
         · exact x_5.out.other4 hk7 nu nu nu nu
         · exact z_5.out.other4 hk7 nu nu nu nu
         · exact hnew.other4 hk7 nu nu nu nu
         · exact Ka_5.out.far4 (by omega)
         · exact Kz_5.out.far4 (by omega)
         · exact bset (bset (bset (bset HB_5.out (by omega)) (by omega)) (by omega)) (by omega))
      | exact ⟨_, _, _, _, _, rfl, by omega, x_5.out.alloc_ _, z_5.out.alloc_ _, hnew.alloc_ _, Blk.new _ _ rfl _ _, Ka_5.out.alloc_ _, Kz_5.out.alloc_ _, halloc HB_5.out⟩
  case rest =>
    obtain ⟨w5, rfl⟩ : ∃ W : World, W = wc := ⟨_, rfl⟩
    obtain ⟨gf, b5, A5, n5, c5, rfl, hl5, q0, q1, q2, q3, q4, q5, q6⟩ := hcut
    have x_5 := Lib.hid q0
    have z_5 := Lib.hid q1
    have f_5 := Lib.hid q2
    have Kf_5 := Lib.hid q3
    have Ka_5 := Lib.hid q4
    have Kz_5 := Lib.hid q5
    have lta_5 : w.heap.size < w5.heap.size := Ka_5.out.lt
    have ltz_5 : w3.heap.size < w5.heap.size := Kz_5.out.lt
    have ltf_5 : gf < w5.heap.size := Kf_5.out.lt
    have HB_5 := Lib.hid q6
    have hs_5 : w.heap.size ≤ w5.heap.size := q6.size
    clear q0 q1 q2 q3 q4 q5 q6
    go_upto_region 7 with fail
    generalize hW : w5 = w6
    have x_6 := Lib.hid (hW ▸ x_5.out)
    have z_6 := Lib.hid (hW ▸ z_5.out)
    have f_6 := Lib.hid (hW ▸ f_5.out)
    have Ka_6 := Lib.hid (show Blk w6 (w.heap.size) 26 #[.bool b00, .slice a00 n00 c00, .bool e00, .slice g00 m00 k00] from by rw [← hW]; exact Ka_5.out)
    have Kz_6 := Lib.hid (show Blk w6 (w3.heap.size) 26 #[.bool b3, .slice A3 n3 c3, .bool d3, .slice B3 m3 k3] from by rw [← hW]; exact Kz_5.out)
    have Kf_6 := Lib.hid (show Blk w6 (gf) 26 #[.bool b5, .slice A5 n5 c5, .bool d3, .slice B3 m3 k3] from by rw [← hW]; exact Kf_5.out)
    have HB_6 := Lib.hid (show Below w.heap.size w w6 from by rw [← hW]; exact HB_5.out)
    have hs_6 : w.heap.size ≤ w6.heap.size := HB_6.out.size
    have hz_6 : w5.heap.size + 0 ≤ w6.heap.size := by rw [← hW]; simp
    clear hW x_5 z_5 f_5 Ka_5 Kz_5 Kf_5 HB_5
    go_cut [5] (fun s wx => WCutC w b00 a00 n00 c00 e00 g00 m00 k00 b3 A3 n3 c3 d3 B3 m3 k3 b5 A5 n5 c5 X Y p c (w3.heap.size) (gf) s wx)
    case first =>
      obtain ⟨p20, p21, p22, p23, l2⟩ := Ka_6.out.use4
      obtain ⟨p30, p31, p32, p33, l3⟩ := Kz_6.out.use4
      have tok0 : True := trivial
      go_region_held3 (fun w' => w'.cell? ⟨w.heap.size, 0, none⟩ = some (.bool b00) ∧ w'.cell? ⟨w.heap.size, 1, none⟩ = some (.slice a00 n00 c00) ∧ w'.cell? ⟨w.heap.size, 2, none⟩ = some (.bool e00) ∧ w'.cell? ⟨w.heap.size, 3, none⟩ = some (.slice g00 m00 k00) ∧ w'.cell? ⟨w3.heap.size, 0, none⟩ = some (.bool b3) ∧ w'.cell? ⟨w3.heap.size, 1, none⟩ = some (.slice A3 n3 c3) ∧ w'.cell? ⟨w3.heap.size, 2, none⟩ = some (.bool d3) ∧ w'.cell? ⟨w3.heap.size, 3, none⟩ = some (.slice B3 m3 k3)) (first | (refine ⟨?_, ?_, ?_, ?_, ?_, ?_, ?_, ?_⟩ <;> (first | with_reducible assumption | ((with_reducible refine Eq.trans (cell_drew _ _) ?_); with_reducible assumption) | ((rw [cell_far4 _ _ _ _ _ _ _ _ (by omega)]); with_reducible assumption) | ((repeat rw [cell_far2 _ _ _ _ _ _ (by omega)]); with_reducible assumption) | go_keep)) | trivial | go_keep)
        (first
          | (go_at_call 35; have _t := tok0; clear _t tok0; ((with_reducible refine Calls.mono (qceil_is HC.out (lq HQ.out (by first | exact x_6.out | exact x_6.out.drew_ | exact x_6.out.alloc_ _ | exact (x_6.out.alloc_ _).drew_)) (by omega) (by omega)) ?_)); rintro e w7 ⟨v, rfl, h, hb⟩; obtain ⟨b7, A7, n7, c7, rfl, -, -, h⟩ := h.form; have hB := (show Below w6.heap.size w6 w7 from by first | exact hb | exact bundrew hb | exact bun hb | exact bundrew (bun hb) | exact bun (bundrew hb)); have x_7 := Lib.hid (x_6.out.below hB); have z_7 := Lib.hid (z_6.out.below hB); have f_7 := Lib.hid (f_6.out.below hB); have Ka_7 := Lib.hid (Ka_6.out.below hB); have Kz_7 := Lib.hid (Kz_6.out.below hB); have Kf_7 := Lib.hid (Kf_6.out.below hB); have u_7 := Lib.hid (h); have HB_7 := Lib.hid (below_trans HB_6.out hB); have hs_7 : w.heap.size ≤ w7.heap.size := HB_7.out.size; have hz_7 : w6.heap.size + 0 ≤ w7.heap.size := (by have h := hb.size; (try simp at h); omega); (first | (have K7 := Lib.hid (K7.out.below hB)) | (have K7 := Lib.hid (Blk.below (Blk.new _ _ rfl _ _) hb)) | (have K7 := Lib.hid (Blk.below (Blk.new _ _ rfl _ _).drew_ hb)) | skip); (try (have hg7 := K7.out.lt)); clear hB hb x_6 z_6 f_6 Ka_6 Kz_6 Kf_6 HB_6 p20 p21 p22 p23 l2 p30 p31 p32 p33 l3; obtain ⟨p40, p41, p42, p43, l4⟩ := Ka_7.out.use4; obtain ⟨p50, p51, p52, p53, l5⟩ := Kz_7.out.use4; (try (obtain ⟨q0, q1, q2, q3, q4⟩ := K7.out.use4; obtain ⟨q5, q6, q7, q8⟩ := K7.out.into4))))
      all_goals
        go_wp2_with fail
        go_meet
        unfold WCutC
        have hnew := israt_int u_7.out z_7.out
        first
        | (have hk7 := K7.out
           refine ⟨_, _, _, _, _, rfl, ?_, ?_, ?_, ?_, ?_, hk7.own4', ?_, ?_, ?_, ?_⟩
           · omega
           · exact x_7.out.other4 hk7 nu nu nu nu
           · exact z_7.out.other4 hk7 nu nu nu nu
           · exact f_7.out.other4 hk7 nu nu nu nu
           · exact hnew.other4 hk7 nu nu nu nu
           · exact Ka_7.out.far4 (by omega)
           · exact Kz_7.out.far4 (by omega)
           · exact Kf_7.out.far4 (by omega)
           · exact bset (bset (bset (bset HB_7.out (by omega)) (by omega)) (by omega)) (by omega))
        | exact ⟨_, _, _, _, _, rfl, by omega, x_7.out.alloc_ _, z_7.out.alloc_ _, f_7.out.alloc_ _, hnew.alloc_ _, Blk.new _ _ rfl _ _, Ka_7.out.alloc_ _, Kz_7.out.alloc_ _, Kf_7.out.alloc_ _, halloc HB_7.out⟩
    case rest =>
      obtain ⟨w7, rfl⟩ : ∃ W : World, W = wc := ⟨_, rfl⟩
      obtain ⟨gc, b7, A7, n7, c7, rfl, hl7, q0, q1, q2, q3, q4, q5, q6, q7, q8⟩ := hcut
      have x_7 := Lib.hid q0
      have z_7 := Lib.hid q1
      have f_7 := Lib.hid q2
      have c_7 := Lib.hid q3
      have Kc_7 := Lib.hid q4
      have Ka_7 := Lib.hid q5
      have Kz_7 := Lib.hid q6
      have Kf_7 := Lib.hid q7
      have lta_7 : w.heap.size < w7.heap.size := Ka_7.out.lt
      have ltz_7 : w3.heap.size < w7.heap.size := Kz_7.out.lt
      have ltf_7 : gf < w7.heap.size := Kf_7.out.lt
      have ltc_7 : gc < w7.heap.size := Kc_7.out.lt
      have HB_7 := Lib.hid q8
      have hs_7 : w.heap.size ≤ w7.heap.size := q8.size
      clear q0 q1 q2 q3 q4 q5 q6 q7 q8
      obtain ⟨p20, p21, p22, p23, l2⟩ := Kz_7.out.use4
      obtain ⟨p30, p31, p32, p33, l3⟩ := Ka_7.out.use4
      go_wp2_with fail
      refine Calls.mono (qsubB_is HY.out (irqB BZ.out z_7.out) (lq HQ.out x_7.out) (by omega) (by omega) (by omega) (by omega)) ?_
      rintro e w8 ⟨v, rfl, h, hb⟩
      have hk := h
      obtain ⟨b8, A8, n8, c8, d8, B8, m8, k8, rfl, -, -, -, -, -⟩ := h.form
      clear h
      have hB := hb
      have x_8 := Lib.hid (x_7.out.below hB)
      have z_8 := Lib.hid (z_7.out.below hB)
      have f_8 := Lib.hid (f_7.out.below hB)
      have c_8 := Lib.hid (c_7.out.below hB)
      have Ka_8 := Lib.hid (Ka_7.out.below hB)
      have Kz_8 := Lib.hid (Kz_7.out.below hB)
      have Kf_8 := Lib.hid (Kf_7.out.below hB)
      have Kc_8 := Lib.hid (Kc_7.out.below hB)
      have m_8 := Lib.hid (hk)
      have HB_8 := Lib.hid (below_trans HB_7.out hB)
      have hs_8 : w.heap.size ≤ w8.heap.size := HB_8.out.size
      have hz_8 : w7.heap.size + 0 ≤ w8.heap.size := (by have h := hb.size; (try simp at h); omega)
      clear hB hb x_7 z_7 f_7 c_7 Ka_7 Kz_7 Kf_7 Kc_7 HB_7 p20 p21 p22 p23 l2 p30 p31 p32 p33 l3
      go_wp2_with fail
      refine Calls.mono (of_oneW _) ?_
      rintro e w9 ⟨v, rfl, h, hb⟩
      have hk := h
      obtain ⟨b9, A9, n9, c9, d9, B9, m9, k9, rfl, -, -, -, -, -⟩ := h.form
      clear h
      have hB := bun (hb)
      have x_9 := Lib.hid (x_8.out.below hB)
      have z_9 := Lib.hid (z_8.out.below hB)
      have f_9 := Lib.hid (f_8.out.below hB)
      have c_9 := Lib.hid (c_8.out.below hB)
      have m_9 := Lib.hid (m_8.out.below hB)
      have Ka_9 := Lib.hid (Ka_8.out.below hB)
      have Kz_9 := Lib.hid (Kz_8.out.below hB)
      have Kf_9 := Lib.hid (Kf_8.out.below hB)
      have Kc_9 := Lib.hid (Kc_8.out.below hB)
      have Km_9 := Lib.hid (show Blk w9 (w8.heap.size) 26 #[.bool b8, .slice A8 n8 c8, .bool d8, .slice B8 m8 k8] from (Blk.new _ _ (by simp) _ _).below hb)
      have o_9 := Lib.hid (hk)
      have HB_9 := Lib.hid (below_trans HB_8.out hB)
      have hs_9 : w.heap.size ≤ w9.heap.size := HB_9.out.size
      have hz_9 : w8.heap.size + 1 ≤ w9.heap.size := (by have h := hb.size; (try simp at h); omega)
      clear hB hb x_8 z_8 f_8 c_8 m_8 Ka_8 Kz_8 Kf_8 Kc_8 HB_8
      go_wp2
      generalize hW : (w9.alloc (.cells #[.bool b9, .slice A9 n9 c9, .bool d9, .slice B9 m9 k9] 26)) = w10
      have x_10 := Lib.hid (hW ▸ (x_9.out.alloc_ _))
      have z_10 := Lib.hid (hW ▸ (z_9.out.alloc_ _))
      have f_10 := Lib.hid (hW ▸ (f_9.out.alloc_ _))
      have c_10 := Lib.hid (hW ▸ (c_9.out.alloc_ _))
      have m_10 := Lib.hid (hW ▸ (m_9.out.alloc_ _))
      have o_10 := Lib.hid (hW ▸ (o_9.out.alloc_ _))
      have Ka_10 := Lib.hid (show Blk w10 (w.heap.size) 26 #[.bool b00, .slice a00 n00 c00, .bool e00, .slice g00 m00 k00] from by rw [← hW]; exact (Ka_9.out.alloc_ _))
      have Kz_10 := Lib.hid (show Blk w10 (w3.heap.size) 26 #[.bool b3, .slice A3 n3 c3, .bool d3, .slice B3 m3 k3] from by rw [← hW]; exact (Kz_9.out.alloc_ _))
      have Kf_10 := Lib.hid (show Blk w10 (gf) 26 #[.bool b5, .slice A5 n5 c5, .bool d3, .slice B3 m3 k3] from by rw [← hW]; exact (Kf_9.out.alloc_ _))
      have Kc_10 := Lib.hid (show Blk w10 (gc) 26 #[.bool b7, .slice A7 n7 c7, .bool d3, .slice B3 m3 k3] from by rw [← hW]; exact (Kc_9.out.alloc_ _))
      have Km_10 := Lib.hid (show Blk w10 (w8.heap.size) 26 #[.bool b8, .slice A8 n8 c8, .bool d8, .slice B8 m8 k8] from by rw [← hW]; exact (Km_9.out.alloc_ _))
      have Ko_10 := Lib.hid (show Blk w10 (w9.heap.size) 26 #[.bool b9, .slice A9 n9 c9, .bool d9, .slice B9 m9 k9] from by rw [← hW]; exact Blk.new _ _ (by simp) _ _)
      have HB_10 := Lib.hid (show Below w.heap.size w w10 from by rw [← hW]; exact halloc (HB_9.out))
      have hs_10 : w.heap.size ≤ w10.heap.size := HB_10.out.size
      have hz_10 : w9.heap.size + 1 ≤ w10.heap.size := by rw [← hW]; simp
      clear hW x_9 z_9 f_9 c_9 m_9 o_9 Ka_9 Kz_9 Kf_9 Kc_9 Km_9 HB_9
      obtain ⟨p40, p41, p42, p43, l4⟩ := Ka_10.out.use4
      obtain ⟨p50, p51, p52, p53, l5⟩ := Kz_10.out.use4
      have tok0 : True := trivial
      have tok1 : True := trivial
      go_region_held3 (fun w' => w'.cell? ⟨w.heap.size, 0, none⟩ = some (.bool b00) ∧ w'.cell? ⟨w.heap.size, 1, none⟩ = some (.slice a00 n00 c00) ∧ w'.cell? ⟨w.heap.size, 2, none⟩ = some (.bool e00) ∧ w'.cell? ⟨w.heap.size, 3, none⟩ = some (.slice g00 m00 k00) ∧ w'.cell? ⟨w3.heap.size, 0, none⟩ = some (.bool b3) ∧ w'.cell? ⟨w3.heap.size, 1, none⟩ = some (.slice A3 n3 c3) ∧ w'.cell? ⟨w3.heap.size, 2, none⟩ = some (.bool d3) ∧ w'.cell? ⟨w3.heap.size, 3, none⟩ = some (.slice B3 m3 k3)) (first | (refine ⟨?_, ?_, ?_, ?_, ?_, ?_, ?_, ?_⟩ <;> (first | with_reducible assumption | ((with_reducible refine Eq.trans (cell_drew _ _) ?_); with_reducible assumption) | ((rw [cell_far4 _ _ _ _ _ _ _ _ (by omega)]); with_reducible assumption) | ((repeat rw [cell_far2 _ _ _ _ _ _ (by omega)]); with_reducible assumption) | go_keep)) | trivial | go_keep)
        (first
          | (go_at_call 31; have _t := tok0; clear _t tok0; ((with_reducible refine Calls.mono (qfrac_is HF.out (lq HQ.out (by first | exact x_10.out | exact x_10.out.drew_ | exact x_10.out.alloc_ _ | exact (x_10.out.alloc_ _).drew_)) (by omega) (by omega)) ?_)); rintro e w11 ⟨v, rfl, h, hb⟩; have hk := h; obtain ⟨b11, A11, n11, c11, d11, B11, m11, k11, rfl, -, -, -, -, -⟩ := h.form; clear h; have hB := (show Below w10.heap.size w10 w11 from by first | exact hb | exact bundrew hb | exact bun hb | exact bundrew (bun hb) | exact bun (bundrew hb)); have x_11 := Lib.hid (x_10.out.below hB); have z_11 := Lib.hid (z_10.out.below hB); have f_11 := Lib.hid (f_10.out.below hB); have c_11 := Lib.hid (c_10.out.below hB); have m_11 := Lib.hid (m_10.out.below hB); have o_11 := Lib.hid (o_10.out.below hB); have Ka_11 := Lib.hid (Ka_10.out.below hB); have Kz_11 := Lib.hid (Kz_10.out.below hB); have Kf_11 := Lib.hid (Kf_10.out.below hB); have Kc_11 := Lib.hid (Kc_10.out.below hB); have Km_11 := Lib.hid (Km_10.out.below hB); have Ko_11 := Lib.hid (Ko_10.out.below hB); have fr_11 := Lib.hid (hk); have HB_11 := Lib.hid (below_trans HB_10.out hB); have hs_11 : w.heap.size ≤ w11.heap.size := HB_11.out.size; have hz_11 : w10.heap.size + 0 ≤ w11.heap.size := (by have h := hb.size; (try simp at h); omega); clear hB hb x_10 z_10 f_10 c_10 m_10 o_10 Ka_10 Kz_10 Kf_10 Kc_10 Km_10 Ko_10 HB_10 p40 p41 p42 p43 l4 p50 p51 p52 p53 l5; obtain ⟨p60, p61, p62, p63, l6⟩ := Ka_11.out.use4; obtain ⟨p70, p71, p72, p73, l7⟩ := Kz_11.out.use4)
          | (go_at_call 21; have _t := tok1; clear _t tok1; ((with_reducible refine Calls.mono (qcmp_is HS.out (irqB BF.out (by first | exact fr_11.out | exact fr_11.out.drew_ | exact fr_11.out.alloc_ _ | exact (fr_11.out.alloc_ _).drew_)) (irqB BZ.out (by first | exact z_11.out | exact z_11.out.drew_ | exact z_11.out.alloc_ _ | exact (z_11.out.alloc_ _).drew_)) (by omega) (by omega) (by omega) (by omega)) ?_)); rintro e w12 ⟨rfl, hb⟩; have hB := (show Below w11.heap.size w11 w12 from by first | exact hb | exact bundrew hb | exact bun hb | exact bundrew (bun hb) | exact bun (bundrew hb)); have x_12 := Lib.hid (x_11.out.below hB); have z_12 := Lib.hid (z_11.out.below hB); have f_12 := Lib.hid (f_11.out.below hB); have c_12 := Lib.hid (c_11.out.below hB); have m_12 := Lib.hid (m_11.out.below hB); have o_12 := Lib.hid (o_11.out.below hB); have Ka_12 := Lib.hid (Ka_11.out.below hB); have Kz_12 := Lib.hid (Kz_11.out.below hB); have Kf_12 := Lib.hid (Kf_11.out.below hB); have Kc_12 := Lib.hid (Kc_11.out.below hB); have Km_12 := Lib.hid (Km_11.out.below hB); have Ko_12 := Lib.hid (Ko_11.out.below hB); have HB_12 := Lib.hid (below_trans HB_11.out hB); have hs_12 : w.heap.size ≤ w12.heap.size := HB_12.out.size; have hz_12 : w11.heap.size + 0 ≤ w12.heap.size := (by have h := hb.size; (try simp at h); omega); clear hB hb x_11 z_11 f_11 c_11 m_11 o_11 fr_11 Ka_11 Kz_11 Kf_11 Kc_11 Km_11 Ko_11 HB_11 p60 p61 p62 p63 l6 p70 p71 p72 p73 l7; obtain ⟨p80, p81, p82, p83, l8⟩ := Ka_12.out.use4; obtain ⟨p90, p91, p92, p93, l9⟩ := Kz_12.out.use4))
      go_upto_region 11 with fail
      generalize hW : w12 = w13
      have x_13 := Lib.hid (hW ▸ x_12.out)
      have z_13 := Lib.hid (hW ▸ z_12.out)
      have f_13 := Lib.hid (hW ▸ f_12.out)
      have c_13 := Lib.hid (hW ▸ c_12.out)
      have m_13 := Lib.hid (hW ▸ m_12.out)
      have o_13 := Lib.hid (hW ▸ o_12.out)
      have Ka_13 := Lib.hid (show Blk w13 (w.heap.size) 26 #[.bool b00, .slice a00 n00 c00, .bool e00, .slice g00 m00 k00] from by rw [← hW]; exact Ka_12.out)
      have Kz_13 := Lib.hid (show Blk w13 (w3.heap.size) 26 #[.bool b3, .slice A3 n3 c3, .bool d3, .slice B3 m3 k3] from by rw [← hW]; exact Kz_12.out)
      have Kf_13 := Lib.hid (show Blk w13 (gf) 26 #[.bool b5, .slice A5 n5 c5, .bool d3, .slice B3 m3 k3] from by rw [← hW]; exact Kf_12.out)
      have Kc_13 := Lib.hid (show Blk w13 (gc) 26 #[.bool b7, .slice A7 n7 c7, .bool d3, .slice B3 m3 k3] from by rw [← hW]; exact Kc_12.out)
      have Km_13 := Lib.hid (show Blk w13 (w8.heap.size) 26 #[.bool b8, .slice A8 n8 c8, .bool d8, .slice B8 m8 k8] from by rw [← hW]; exact Km_12.out)
      have Ko_13 := Lib.hid (show Blk w13 (w9.heap.size) 26 #[.bool b9, .slice A9 n9 c9, .bool d9, .slice B9 m9 k9] from by rw [← hW]; exact Ko_12.out)
      have HB_13 := Lib.hid (show Below w.heap.size w w13 from by rw [← hW]; exact HB_12.out)
      have hs_13 : w.heap.size ≤ w13.heap.size := HB_13.out.size
      have hz_13 : w12.heap.size + 0 ≤ w13.heap.size := by rw [← hW]; simp
      clear hW x_12 z_12 f_12 c_12 m_12 o_12 Ka_12 Kz_12 Kf_12 Kc_12 Km_12 Ko_12 HB_12 p80 p81 p82 p83 l8 p90 p91 p92 p93 l9
      go_cut [10] (fun s wx => WCutG w b00 a00 n00 c00 e00 g00 m00 k00 b3 A3 n3 c3 d3 B3 m3 k3 b5 A5 n5 c5 b7 A7 n7 c7 b8 A8 n8 c8 d8 B8 m8 k8 b9 A9 n9 c9 d9 B9 m9 k9 X Y p c gg y (w3.heap.size) (gf) (gc) (w8.heap.size) (w9.heap.size) s wx)
      case first =>
        obtain ⟨p100, p101, p102, p103, l10⟩ := Km_13.out.use4
        obtain ⟨p110, p111, p112, p113, l11⟩ := Kz_13.out.use4
        have tok0 : True := trivial
        go_region_held3 (fun w' => w'.cell? ⟨w8.heap.size, 0, none⟩ = some (.bool b8) ∧ w'.cell? ⟨w8.heap.size, 1, none⟩ = some (.slice A8 n8 c8) ∧ w'.cell? ⟨w8.heap.size, 2, none⟩ = some (.bool d8) ∧ w'.cell? ⟨w8.heap.size, 3, none⟩ = some (.slice B8 m8 k8) ∧ w'.cell? ⟨w3.heap.size, 0, none⟩ = some (.bool b3) ∧ w'.cell? ⟨w3.heap.size, 1, none⟩ = some (.slice A3 n3 c3) ∧ w'.cell? ⟨w3.heap.size, 2, none⟩ = some (.bool d3) ∧ w'.cell? ⟨w3.heap.size, 3, none⟩ = some (.slice B3 m3 k3)) (first | (refine ⟨?_, ?_, ?_, ?_, ?_, ?_, ?_, ?_⟩ <;> (first | with_reducible assumption | ((with_reducible refine Eq.trans (cell_drew _ _) ?_); with_reducible assumption) | ((rw [cell_far4 _ _ _ _ _ _ _ _ (by omega)]); with_reducible assumption) | ((repeat rw [cell_far2 _ _ _ _ _ _ (by omega)]); with_reducible assumption) | go_keep)) | trivial | go_keep)
          (first
            | (go_at_call 33; have _t := tok0; clear _t tok0; ((with_reducible refine Calls.mono (qfloor_is HG.out (irqB BY.out (by first | exact m_13.out | exact m_13.out.drew_ | exact m_13.out.alloc_ _ | exact (m_13.out.alloc_ _).drew_)) (by omega) (by omega)) ?_)); rintro e w14 ⟨v, rfl, h, hb⟩; obtain ⟨b14, A14, n14, c14, rfl, -, -, h⟩ := h.form; have hB := (show Below w13.heap.size w13 w14 from by first | exact hb | exact bundrew hb | exact bun hb | exact bundrew (bun hb) | exact bun (bundrew hb)); have x_14 := Lib.hid (x_13.out.below hB); have z_14 := Lib.hid (z_13.out.below hB); have f_14 := Lib.hid (f_13.out.below hB); have c_14 := Lib.hid (c_13.out.below hB); have m_14 := Lib.hid (m_13.out.below hB); have o_14 := Lib.hid (o_13.out.below hB); have Ka_14 := Lib.hid (Ka_13.out.below hB); have Kz_14 := Lib.hid (Kz_13.out.below hB); have Kf_14 := Lib.hid (Kf_13.out.below hB); have Kc_14 := Lib.hid (Kc_13.out.below hB); have Km_14 := Lib.hid (Km_13.out.below hB); have Ko_14 := Lib.hid (Ko_13.out.below hB); have u_14 := Lib.hid (h); have HB_14 := Lib.hid (below_trans HB_13.out hB); have hs_14 : w.heap.size ≤ w14.heap.size := HB_14.out.size; have hz_14 : w13.heap.size + 0 ≤ w14.heap.size := (by have h := hb.size; (try simp at h); omega); (first | (have K7 := Lib.hid (K7.out.below hB)) | (have K7 := Lib.hid (Blk.below (Blk.new _ _ rfl _ _) hb)) | (have K7 := Lib.hid (Blk.below (Blk.new _ _ rfl _ _).drew_ hb)) | skip); (try (have hg7 := K7.out.lt)); clear hB hb x_13 z_13 f_13 c_13 m_13 o_13 Ka_13 Kz_13 Kf_13 Kc_13 Km_13 Ko_13 HB_13 p100 p101 p102 p103 l10 p110 p111 p112 p113 l11; obtain ⟨p120, p121, p122, p123, l12⟩ := Km_14.out.use4; obtain ⟨p130, p131, p132, p133, l13⟩ := Kz_14.out.use4; (try (obtain ⟨q0, q1, q2, q3, q4⟩ := K7.out.use4; obtain ⟨q5, q6, q7, q8⟩ := K7.out.into4))))
        all_goals
          go_wp2_with fail
          go_meet
          unfold WCutG
          have hnew := israt_int u_14.out z_14.out
          first
          | (have hk7 := K7.out
             refine ⟨_, _, _, _, _, rfl, ?_, ?_, ?_, ?_, ?_, ?_, ?_, hk7.own4', ?_, ?_, ?_, ?_, ?_, ?_, ?_⟩
             · omega
             · exact x_14.out.other4 hk7 nu nu nu nu
             · exact z_14.out.other4 hk7 nu nu nu nu
             · exact f_14.out.other4 hk7 nu nu nu nu
             · exact c_14.out.other4 hk7 nu nu nu nu
             · exact o_14.out.other4 hk7 nu nu nu nu
             · exact hnew.other4 hk7 nu nu nu nu
             · exact Ka_14.out.far4 (by omega)
             · exact Kz_14.out.far4 (by omega)
             · exact Kf_14.out.far4 (by omega)
             · exact Kc_14.out.far4 (by omega)
             · exact Km_14.out.far4 (by omega)
             · exact Ko_14.out.far4 (by omega)
             · exact bset (bset (bset (bset HB_14.out (by omega)) (by omega)) (by omega)) (by omega))
          | exact ⟨_, _, _, _, _, rfl, by omega, x_14.out.alloc_ _, z_14.out.alloc_ _, f_14.out.alloc_ _, c_14.out.alloc_ _, o_14.out.alloc_ _, hnew.alloc_ _, Blk.new _ _ rfl _ _, Ka_14.out.alloc_ _, Kz_14.out.alloc_ _, Kf_14.out.alloc_ _, Kc_14.out.alloc_ _, Km_14.out.alloc_ _, Ko_14.out.alloc_ _, halloc HB_14.out⟩
      case rest =>
        obtain ⟨w14, rfl⟩ : ∃ W : World, W = wc := ⟨_, rfl⟩
        obtain ⟨gg, b14, A14, n14, c14, rfl, hl14, q0, q1, q2, q3, q4, q5, q6, q7, q8, q9, q10, q11, q12, q13⟩ := hcut
        have x_14 := Lib.hid q0
        have z_14 := Lib.hid q1
        have f_14 := Lib.hid q2
        have c_14 := Lib.hid q3
        have o_14 := Lib.hid q4
        have g_14 := Lib.hid q5
        have Kg_14 := Lib.hid q6
        have Ka_14 := Lib.hid q7
        have Kz_14 := Lib.hid q8
        have Kf_14 := Lib.hid q9
        have Kc_14 := Lib.hid q10
        have Km_14 := Lib.hid q11
        have Ko_14 := Lib.hid q12
        have lta_14 : w.heap.size < w14.heap.size := Ka_14.out.lt
        have ltz_14 : w3.heap.size < w14.heap.size := Kz_14.out.lt
        have ltf_14 : gf < w14.heap.size := Kf_14.out.lt
        have ltc_14 : gc < w14.heap.size := Kc_14.out.lt
        have ltm_14 : w8.heap.size < w14.heap.size := Km_14.out.lt
        have lto_14 : w9.heap.size < w14.heap.size := Ko_14.out.lt
        have ltg_14 : gg < w14.heap.size := Kg_14.out.lt
        have HB_14 := Lib.hid q13
        have hs_14 : w.heap.size ≤ w14.heap.size := q13.size
        clear q0 q1 q2 q3 q4 q5 q6 q7 q8 q9 q10 q11 q12 q13
        go_wp2
        obtain ⟨p100, p101, p102, p103, l10⟩ := Kz_14.out.use4
        obtain ⟨p110, p111, p112, p113, l11⟩ := Kc_14.out.use4
        obtain ⟨p120, p121, p122, p123, l12⟩ := Kg_14.out.use4
        obtain ⟨p130, p131, p132, p133, l13⟩ := Kf_14.out.use4
        obtain ⟨p140, p141, p142, p143, l14⟩ := Ka_14.out.use4
        have tok0 : True := trivial
        have tok1 : True := trivial
        have tok2 : True := trivial
        have tok3 : True := trivial
        have tok4 : True := trivial
        go_region_held3 (fun w' => w'.cell? ⟨w3.heap.size, 0, none⟩ = some (.bool b3) ∧ w'.cell? ⟨w3.heap.size, 1, none⟩ = some (.slice A3 n3 c3) ∧ w'.cell? ⟨w3.heap.size, 2, none⟩ = some (.bool d3) ∧ w'.cell? ⟨w3.heap.size, 3, none⟩ = some (.slice B3 m3 k3) ∧ w'.cell? ⟨gc, 0, none⟩ = some (.bool b7) ∧ w'.cell? ⟨gc, 1, none⟩ = some (.slice A7 n7 c7) ∧ w'.cell? ⟨gc, 2, none⟩ = some (.bool d3) ∧ w'.cell? ⟨gc, 3, none⟩ = some (.slice B3 m3 k3) ∧ w'.cell? ⟨gg, 0, none⟩ = some (.bool b14) ∧ w'.cell? ⟨gg, 1, none⟩ = some (.slice A14 n14 c14) ∧ w'.cell? ⟨gg, 2, none⟩ = some (.bool d3) ∧ w'.cell? ⟨gg, 3, none⟩ = some (.slice B3 m3 k3) ∧ w'.cell? ⟨gf, 0, none⟩ = some (.bool b5) ∧ w'.cell? ⟨gf, 1, none⟩ = some (.slice A5 n5 c5) ∧ w'.cell? ⟨gf, 2, none⟩ = some (.bool d3) ∧ w'.cell? ⟨gf, 3, none⟩ = some (.slice B3 m3 k3) ∧ w'.cell? ⟨w.heap.size, 0, none⟩ = some (.bool b00) ∧ w'.cell? ⟨w.heap.size, 1, none⟩ = some (.slice a00 n00 c00) ∧ w'.cell? ⟨w.heap.size, 2, none⟩ = some (.bool e00) ∧ w'.cell? ⟨w.heap.size, 3, none⟩ = some (.slice g00 m00 k00)) (first | (refine ⟨?_, ?_, ?_, ?_, ?_, ?_, ?_, ?_, ?_, ?_, ?_, ?_, ?_, ?_, ?_, ?_, ?_, ?_, ?_, ?_⟩ <;> (first | with_reducible assumption | ((with_reducible refine Eq.trans (cell_drew _ _) ?_); with_reducible assumption) | ((rw [cell_far4 _ _ _ _ _ _ _ _ (by omega)]); with_reducible assumption) | ((repeat rw [cell_far2 _ _ _ _ _ _ (by omega)]); with_reducible assumption) | go_keep)) | trivial | go_keep)
          (first
            | (go_at_call 25; have _t := tok0; clear _t tok0; ((with_reducible refine Calls.mono (qsubB_is EG.out (irqB BZ.out (by first | exact z_14.out | exact z_14.out.drew_ | exact z_14.out.alloc_ _ | exact (z_14.out.alloc_ _).drew_)) (irqB BC.out (by first | exact c_14.out | exact c_14.out.drew_ | exact c_14.out.alloc_ _ | exact (c_14.out.alloc_ _).drew_)) (by omega) (by omega) (by omega) (by omega)) ?_)); rintro e w15 ⟨v, rfl, h, hb⟩; have hk := h; obtain ⟨b15, A15, n15, c15, d15, B15, m15, k15, rfl, -, -, -, -, -⟩ := h.form; clear h; have hB := (show Below w14.heap.size w14 w15 from by first | exact hb | exact bundrew hb | exact bun hb | exact bundrew (bun hb) | exact bun (bundrew hb)); have x_15 := Lib.hid (x_14.out.below hB); have z_15 := Lib.hid (z_14.out.below hB); have f_15 := Lib.hid (f_14.out.below hB); have c_15 := Lib.hid (c_14.out.below hB); have o_15 := Lib.hid (o_14.out.below hB); have g_15 := Lib.hid (g_14.out.below hB); have Ka_15 := Lib.hid (Ka_14.out.below hB); have Kz_15 := Lib.hid (Kz_14.out.below hB); have Kf_15 := Lib.hid (Kf_14.out.below hB); have Kc_15 := Lib.hid (Kc_14.out.below hB); have Km_15 := Lib.hid (Km_14.out.below hB); have Ko_15 := Lib.hid (Ko_14.out.below hB); have Kg_15 := Lib.hid (Kg_14.out.below hB); have u_15 := Lib.hid (hk); have HB_15 := Lib.hid (below_trans HB_14.out hB); have hs_15 : w.heap.size ≤ w15.heap.size := HB_15.out.size; have hz_15 : w14.heap.size + 0 ≤ w15.heap.size := (by have h := hb.size; (try simp at h); omega); clear hB hb x_14 z_14 f_14 c_14 o_14 g_14 Ka_14 Kz_14 Kf_14 Kc_14 Km_14 Ko_14 Kg_14 HB_14 p100 p101 p102 p103 l10 p110 p111 p112 p113 l11 p120 p121 p122 p123 l12 p130 p131 p132 p133 l13 p140 p141 p142 p143 l14; obtain ⟨p150, p151, p152, p153, l15⟩ := Kz_15.out.use4; obtain ⟨p160, p161, p162, p163, l16⟩ := Kc_15.out.use4; obtain ⟨p170, p171, p172, p173, l17⟩ := Kg_15.out.use4; obtain ⟨p180, p181, p182, p183, l18⟩ := Kf_15.out.use4; obtain ⟨p190, p191, p192, p193, l19⟩ := Ka_15.out.use4)
            | (go_at_call 19; have _t := tok1; clear _t tok1; ((with_reducible refine Calls.mono (q_plain (irqB BG.out (by first | exact g_15.out | exact g_15.out.drew_ | exact g_15.out.alloc_ _ | exact (g_15.out.alloc_ _).drew_)) (by omega) (by omega)) ?_)); rintro e w16 ⟨v, rfl, h, hb⟩; have hk := h; obtain ⟨b16, A16, n16, c16, d16, B16, m16, k16, rfl, -, -, -, -, -⟩ := h.form; clear h; have hB := (show Below w15.heap.size w15 w16 from by first | exact hb | exact bundrew hb | exact bun hb | exact bundrew (bun hb) | exact bun (bundrew hb)); have x_16 := Lib.hid (x_15.out.below hB); have z_16 := Lib.hid (z_15.out.below hB); have f_16 := Lib.hid (f_15.out.below hB); have c_16 := Lib.hid (c_15.out.below hB); have o_16 := Lib.hid (o_15.out.below hB); have g_16 := Lib.hid (g_15.out.below hB); have u_16 := Lib.hid (u_15.out.below hB); have Ka_16 := Lib.hid (Ka_15.out.below hB); have Kz_16 := Lib.hid (Kz_15.out.below hB); have Kf_16 := Lib.hid (Kf_15.out.below hB); have Kc_16 := Lib.hid (Kc_15.out.below hB); have Km_16 := Lib.hid (Km_15.out.below hB); have Ko_16 := Lib.hid (Ko_15.out.below hB); have Kg_16 := Lib.hid (Kg_15.out.below hB); have v_16 := Lib.hid (hk); have HB_16 := Lib.hid (below_trans HB_15.out hB); have hs_16 : w.heap.size ≤ w16.heap.size := HB_16.out.size; have hz_16 : w15.heap.size + 0 ≤ w16.heap.size := (by have h := hb.size; (try simp at h); omega); clear hB hb x_15 z_15 f_15 c_15 o_15 g_15 u_15 Ka_15 Kz_15 Kf_15 Kc_15 Km_15 Ko_15 Kg_15 HB_15 p150 p151 p152 p153 l15 p160 p161 p162 p163 l16 p170 p171 p172 p173 l17 p180 p181 p182 p183 l18 p190 p191 p192 p193 l19; obtain ⟨p200, p201, p202, p203, l20⟩ := Kz_16.out.use4; obtain ⟨p210, p211, p212, p213, l21⟩ := Kc_16.out.use4; obtain ⟨p220, p221, p222, p223, l22⟩ := Kg_16.out.use4; obtain ⟨p230, p231, p232, p233, l23⟩ := Kf_16.out.use4; obtain ⟨p240, p241, p242, p243, l24⟩ := Ka_16.out.use4)
            | (go_at_call 18; have _t := tok2; clear _t tok2; ((with_reducible refine Calls.mono (rat_same (by first | exact u_16.out | exact u_16.out.drew_ | exact u_16.out.alloc_ _ | exact (u_16.out.alloc_ _).drew_) (by first | exact v_16.out | exact v_16.out.drew_ | exact v_16.out.alloc_ _ | exact (v_16.out.alloc_ _).drew_) BG.out (by omega)) ?_)); rintro e w17 ⟨rfl, hb⟩; have hB := (show Below w16.heap.size w16 w17 from by first | exact hb | exact bundrew hb | exact bun hb | exact bundrew (bun hb) | exact bun (bundrew hb)); have x_17 := Lib.hid (x_16.out.below hB); have z_17 := Lib.hid (z_16.out.below hB); have f_17 := Lib.hid (f_16.out.below hB); have c_17 := Lib.hid (c_16.out.below hB); have o_17 := Lib.hid (o_16.out.below hB); have g_17 := Lib.hid (g_16.out.below hB); have Ka_17 := Lib.hid (Ka_16.out.below hB); have Kz_17 := Lib.hid (Kz_16.out.below hB); have Kf_17 := Lib.hid (Kf_16.out.below hB); have Kc_17 := Lib.hid (Kc_16.out.below hB); have Km_17 := Lib.hid (Km_16.out.below hB); have Ko_17 := Lib.hid (Ko_16.out.below hB); have Kg_17 := Lib.hid (Kg_16.out.below hB); have HB_17 := Lib.hid (below_trans HB_16.out hB); have hs_17 : w.heap.size ≤ w17.heap.size := HB_17.out.size; have hz_17 : w16.heap.size + 0 ≤ w17.heap.size := (by have h := hb.size; (try simp at h); omega); clear hB hb x_16 z_16 f_16 c_16 o_16 g_16 u_16 v_16 Ka_16 Kz_16 Kf_16 Kc_16 Km_16 Ko_16 Kg_16 HB_16 p200 p201 p202 p203 l20 p210 p211 p212 p213 l21 p220 p221 p222 p223 l22 p230 p231 p232 p233 l23 p240 p241 p242 p243 l24; obtain ⟨p250, p251, p252, p253, l25⟩ := Kz_17.out.use4; obtain ⟨p260, p261, p262, p263, l26⟩ := Kc_17.out.use4; obtain ⟨p270, p271, p272, p273, l27⟩ := Kg_17.out.use4; obtain ⟨p280, p281, p282, p283, l28⟩ := Kf_17.out.use4; obtain ⟨p290, p291, p292, p293, l29⟩ := Ka_17.out.use4)
            | (go_at_call 21; have _t := tok3; clear _t tok3; ((with_reducible refine Calls.mono (qcmp_is HE1.out (irqB BP.out (by first | exact f_17.out | exact f_17.out.drew_ | exact f_17.out.alloc_ _ | exact (f_17.out.alloc_ _).drew_)) (lq HQ.out (by first | exact x_17.out | exact x_17.out.drew_ | exact x_17.out.alloc_ _ | exact (x_17.out.alloc_ _).drew_)) (by omega) (by omega) (by omega) (by omega)) ?_)); rintro e w18 ⟨rfl, hb⟩; have hB := (show Below w17.heap.size w17 w18 from by first | exact hb | exact bundrew hb | exact bun hb | exact bundrew (bun hb) | exact bun (bundrew hb)); have x_18 := Lib.hid (x_17.out.below hB); have z_18 := Lib.hid (z_17.out.below hB); have f_18 := Lib.hid (f_17.out.below hB); have c_18 := Lib.hid (c_17.out.below hB); have o_18 := Lib.hid (o_17.out.below hB); have g_18 := Lib.hid (g_17.out.below hB); have Ka_18 := Lib.hid (Ka_17.out.below hB); have Kz_18 := Lib.hid (Kz_17.out.below hB); have Kf_18 := Lib.hid (Kf_17.out.below hB); have Kc_18 := Lib.hid (Kc_17.out.below hB); have Km_18 := Lib.hid (Km_17.out.below hB); have Ko_18 := Lib.hid (Ko_17.out.below hB); have Kg_18 := Lib.hid (Kg_17.out.below hB); have HB_18 := Lib.hid (below_trans HB_17.out hB); have hs_18 : w.heap.size ≤ w18.heap.size := HB_18.out.size; have hz_18 : w17.heap.size + 0 ≤ w18.heap.size := (by have h := hb.size; (try simp at h); omega); clear hB hb x_17 z_17 f_17 c_17 o_17 g_17 Ka_17 Kz_17 Kf_17 Kc_17 Km_17 Ko_17 Kg_17 HB_17 p250 p251 p252 p253 l25 p260 p261 p262 p263 l26 p270 p271 p272 p273 l27 p280 p281 p282 p283 l28 p290 p291 p292 p293 l29; obtain ⟨p300, p301, p302, p303, l30⟩ := Kz_18.out.use4; obtain ⟨p310, p311, p312, p313, l31⟩ := Kc_18.out.use4; obtain ⟨p320, p321, p322, p323, l32⟩ := Kg_18.out.use4; obtain ⟨p330, p331, p332, p333, l33⟩ := Kf_18.out.use4; obtain ⟨p340, p341, p342, p343, l34⟩ := Ka_18.out.use4)
            | (go_at_call 21; have _t := tok4; clear _t tok4; ((with_reducible refine Calls.mono (qcmp_is HE2.out (irqB BC.out (by first | exact c_18.out | exact c_18.out.drew_ | exact c_18.out.alloc_ _ | exact (c_18.out.alloc_ _).drew_)) (lq HQ.out (by first | exact x_18.out | exact x_18.out.drew_ | exact x_18.out.alloc_ _ | exact (x_18.out.alloc_ _).drew_)) (by omega) (by omega) (by omega) (by omega)) ?_)); rintro e w19 ⟨rfl, hb⟩; have hB := (show Below w18.heap.size w18 w19 from by first | exact hb | exact bundrew hb | exact bun hb | exact bundrew (bun hb) | exact bun (bundrew hb)); have x_19 := Lib.hid (x_18.out.below hB); have z_19 := Lib.hid (z_18.out.below hB); have f_19 := Lib.hid (f_18.out.below hB); have c_19 := Lib.hid (c_18.out.below hB); have o_19 := Lib.hid (o_18.out.below hB); have g_19 := Lib.hid (g_18.out.below hB); have Ka_19 := Lib.hid (Ka_18.out.below hB); have Kz_19 := Lib.hid (Kz_18.out.below hB); have Kf_19 := Lib.hid (Kf_18.out.below hB); have Kc_19 := Lib.hid (Kc_18.out.below hB); have Km_19 := Lib.hid (Km_18.out.below hB); have Ko_19 := Lib.hid (Ko_18.out.below hB); have Kg_19 := Lib.hid (Kg_18.out.below hB); have HB_19 := Lib.hid (below_trans HB_18.out hB); have hs_19 : w.heap.size ≤ w19.heap.size := HB_19.out.size; have hz_19 : w18.heap.size + 0 ≤ w19.heap.size := (by have h := hb.size; (try simp at h); omega); clear hB hb x_18 z_18 f_18 c_18 o_18 g_18 Ka_18 Kz_18 Kf_18 Kc_18 Km_18 Ko_18 Kg_18 HB_18 p300 p301 p302 p303 l30 p310 p311 p312 p313 l31 p320 p321 p322 p323 l32 p330 p331 p332 p333 l33 p340 p341 p342 p343 l34; obtain ⟨p350, p351, p352, p353, l35⟩ := Kz_19.out.use4; obtain ⟨p360, p361, p362, p363, l36⟩ := Kc_19.out.use4; obtain ⟨p370, p371, p372, p373, l37⟩ := Kg_19.out.use4; obtain ⟨p380, p381, p382, p383, l38⟩ := Kf_19.out.use4; obtain ⟨p390, p391, p392, p393, l39⟩ := Ka_19.out.use4))
        go_wp2
        obtain ⟨p400, p401, p402, p403, l40⟩ := Kc_19.out.use4
        obtain ⟨p410, p411, p412, p413, l41⟩ := Kf_19.out.use4
        obtain ⟨p420, p421, p422, p423, l42⟩ := Kz_19.out.use4
        have tok0 : True := trivial
        have tok1 : True := trivial
        refine wp_region_held_drew (S := (fun w' => w'.cell? ⟨gc, 0, none⟩ = some (.bool b7) ∧ w'.cell? ⟨gc, 1, none⟩ = some (.slice A7 n7 c7) ∧ w'.cell? ⟨gc, 2, none⟩ = some (.bool d3) ∧ w'.cell? ⟨gc, 3, none⟩ = some (.slice B3 m3 k3) ∧ w'.cell? ⟨gf, 0, none⟩ = some (.bool b5) ∧ w'.cell? ⟨gf, 1, none⟩ = some (.slice A5 n5 c5) ∧ w'.cell? ⟨gf, 2, none⟩ = some (.bool d3) ∧ w'.cell? ⟨gf, 3, none⟩ = some (.slice B3 m3 k3) ∧ w'.cell? ⟨w3.heap.size, 0, none⟩ = some (.bool b3) ∧ w'.cell? ⟨w3.heap.size, 1, none⟩ = some (.slice A3 n3 c3) ∧ w'.cell? ⟨w3.heap.size, 2, none⟩ = some (.bool d3) ∧ w'.cell? ⟨w3.heap.size, 3, none⟩ = some (.slice B3 m3 k3))) (by kernel_rfl) ?_ (fun hHeld => ?_)
        · (first | (refine ⟨?_, ?_, ?_, ?_, ?_, ?_, ?_, ?_, ?_, ?_, ?_, ?_⟩ <;> (first | with_reducible assumption | ((with_reducible refine Eq.trans (cell_drew _ _) ?_); with_reducible assumption) | ((rw [cell_far4 _ _ _ _ _ _ _ _ (by omega)]); with_reducible assumption) | ((repeat rw [cell_far2 _ _ _ _ _ _ (by omega)]); with_reducible assumption) | go_keep)) | trivial | go_keep)
        refine wpAnyH_take (i := 0) (v := ?_) rfl (by kernel_rfl) (by kernel_rfl) (by kernel_rfl) (fun _ _ _ h => h) (Or.inl ⟨by kernel_rfl, ?_⟩) (by assumption) ?_
        rotate_left
        · intro w hSw; (try dsimp only at hSw); go_simp <;> (try with_reducible rfl)
        (try simp only [Act.put, List.setIfInBounds_toArray, List.set_cons_zero, List.set_cons_succ, List.getElem_toArray, List.getElem_cons_zero])
        refine wpAnyH_take (i := 1) (v := ?_) rfl (by kernel_rfl) (by kernel_rfl) (by kernel_rfl) (fun _ _ _ h => h) (Or.inl ⟨by kernel_rfl, ?_⟩) (by assumption) ?_
        rotate_left
        · intro w hSw; (try dsimp only at hSw); go_simp <;> (try with_reducible rfl)
        (try simp only [Act.put, List.setIfInBounds_toArray, List.set_cons_zero, List.set_cons_succ, List.getElem_toArray, List.getElem_cons_succ, List.getElem_cons_zero])
        refine wpAnyH_take (i := 2) (v := ?_) rfl (by kernel_rfl) (by kernel_rfl) (by kernel_rfl) (fun _ _ _ h => h) (Or.inl ⟨by kernel_rfl, ?_⟩) (by assumption) ?_
        rotate_left
        · intro w hSw; (try dsimp only at hSw); go_simp <;> (try with_reducible rfl)
        (try simp only [Act.put, List.setIfInBounds_toArray, List.set_cons_zero, List.set_cons_succ, List.getElem_toArray, List.getElem_cons_succ, List.getElem_cons_zero])
        refine wpAnyH_take (i := 3) (v := ?_) rfl (by kernel_rfl) (by kernel_rfl) (by kernel_rfl) (fun _ _ _ h => h) (Or.inl ⟨by kernel_rfl, ?_⟩) (by assumption) ?_
        rotate_left
        · intro w hSw; (try dsimp only at hSw); go_simp <;> (try with_reducible rfl)
        (try simp only [Act.put, List.setIfInBounds_toArray, List.set_cons_zero, List.set_cons_succ, List.getElem_toArray, List.getElem_cons_succ, List.getElem_cons_zero])
        refine wpAnyH_take (i := 5) (v := ?_) rfl (by kernel_rfl) (by kernel_rfl) (by kernel_rfl) (fun _ _ _ h => h) (Or.inl ⟨by kernel_rfl, ?_⟩) (by assumption) ?_
        rotate_left
        · intro w hSw; (try dsimp only at hSw); go_simp <;> (try with_reducible rfl)
        (try simp only [Act.put, List.setIfInBounds_toArray, List.set_cons_zero, List.set_cons_succ, List.getElem_toArray, List.getElem_cons_succ, List.getElem_cons_zero])
        refine wpAnyH_ready (rs := [4]) (by kernel_rfl) (by simp) ?_
        refine AllReadyH.cons rfl (fun K hK => ?_) AllReadyH.nil
        go_simp
        (go_at_call 25; have _t := tok0; clear _t tok0; ((with_reducible refine Calls.mono (qsubB_is HCF.out (irqB BC.out (by first | exact c_19.out | exact c_19.out.drew_ | exact c_19.out.alloc_ _ | exact (c_19.out.alloc_ _).drew_)) (irqB BP.out (by first | exact f_19.out | exact f_19.out.drew_ | exact f_19.out.alloc_ _ | exact (f_19.out.alloc_ _).drew_)) (by omega) (by omega) (by omega) (by omega)) ?_)); rintro e w20 ⟨v, rfl, h, hb⟩; have hk := h; obtain ⟨b20, A20, n20, c20, d20, B20, m20, k20, rfl, -, -, -, -, -⟩ := h.form; clear h; have hB := (show Below w19.heap.size w19 w20 from by first | exact hb | exact bundrew hb | exact bun hb | exact bundrew (bun hb) | exact bun (bundrew hb)); have x_20 := Lib.hid (x_19.out.below hB); have z_20 := Lib.hid (z_19.out.below hB); have f_20 := Lib.hid (f_19.out.below hB); have c_20 := Lib.hid (c_19.out.below hB); have o_20 := Lib.hid (o_19.out.below hB); have g_20 := Lib.hid (g_19.out.below hB); have Ka_20 := Lib.hid (Ka_19.out.below hB); have Kz_20 := Lib.hid (Kz_19.out.below hB); have Kf_20 := Lib.hid (Kf_19.out.below hB); have Kc_20 := Lib.hid (Kc_19.out.below hB); have Km_20 := Lib.hid (Km_19.out.below hB); have Ko_20 := Lib.hid (Ko_19.out.below hB); have Kg_20 := Lib.hid (Kg_19.out.below hB); have u_20 := Lib.hid (hk); have HB_20 := Lib.hid (below_trans HB_19.out hB); have hs_20 : w.heap.size ≤ w20.heap.size := HB_20.out.size; have hz_20 : w19.heap.size + 0 ≤ w20.heap.size := (by have h := hb.size; (try simp at h); omega); clear hB hb x_19 z_19 f_19 c_19 o_19 g_19 Ka_19 Kz_19 Kf_19 Kc_19 Km_19 Ko_19 Kg_19 HB_19 p350 p351 p352 p353 l35 p360 p361 p362 p363 l36 p370 p371 p372 p373 l37 p380 p381 p382 p383 l38 p390 p391 p392 p393 l39 p400 p401 p402 p403 l40 p410 p411 p412 p413 l41 p420 p421 p422 p423 l42; obtain ⟨p430, p431, p432, p433, l43⟩ := Kc_20.out.use4; obtain ⟨p440, p441, p442, p443, l44⟩ := Kf_20.out.use4; obtain ⟨p450, p451, p452, p453, l45⟩ := Kz_20.out.use4)
        refine hK.out _ _ ?_ (fun hHeld => ?_)
        · (try dsimp only); (first | (refine ⟨?_, ?_, ?_, ?_, ?_, ?_, ?_, ?_, ?_, ?_, ?_, ?_⟩ <;> (first | with_reducible assumption | ((with_reducible refine Eq.trans (cell_drew _ _) ?_); with_reducible assumption) | ((rw [cell_far4 _ _ _ _ _ _ _ _ (by omega)]); with_reducible assumption) | ((repeat rw [cell_far2 _ _ _ _ _ _ (by omega)]); with_reducible assumption) | go_keep)) | trivial | go_keep)
        clear hK K
        (try simp only [Act.put, List.setIfInBounds_toArray, List.set_cons_zero, List.set_cons_succ, List.getElem_toArray, List.getElem_cons_succ, List.getElem_cons_zero])
        refine wpAnyH_ready (rs := [6]) (by kernel_rfl) (by simp) ?_
        refine AllReadyH.cons rfl (fun K hK => ?_) AllReadyH.nil
        go_simp
        (go_at_call 18; have _t := tok1; clear _t tok1; ((with_reducible refine Calls.mono (rat_same (by first | exact u_20.out | exact u_20.out.drew_ | exact u_20.out.alloc_ _ | exact (u_20.out.alloc_ _).drew_) (by first | exact z_20.out | exact z_20.out.drew_ | exact z_20.out.alloc_ _ | exact (z_20.out.alloc_ _).drew_) BZ.out (by omega)) ?_)); rintro e w21 ⟨rfl, hb⟩; have hB := (show Below w20.heap.size w20 w21 from by first | exact hb | exact bundrew hb | exact bun hb | exact bundrew (bun hb) | exact bun (bundrew hb)); have x_21 := Lib.hid (x_20.out.below hB); have z_21 := Lib.hid (z_20.out.below hB); have f_21 := Lib.hid (f_20.out.below hB); have c_21 := Lib.hid (c_20.out.below hB); have o_21 := Lib.hid (o_20.out.below hB); have g_21 := Lib.hid (g_20.out.below hB); have u_21 := Lib.hid (u_20.out.below hB); have Ka_21 := Lib.hid (Ka_20.out.below hB); have Kz_21 := Lib.hid (Kz_20.out.below hB); have Kf_21 := Lib.hid (Kf_20.out.below hB); have Kc_21 := Lib.hid (Kc_20.out.below hB); have Km_21 := Lib.hid (Km_20.out.below hB); have Ko_21 := Lib.hid (Ko_20.out.below hB); have Kg_21 := Lib.hid (Kg_20.out.below hB); have HB_21 := Lib.hid (below_trans HB_20.out hB); have hs_21 : w.heap.size ≤ w21.heap.size := HB_21.out.size; have hz_21 : w20.heap.size + 0 ≤ w21.heap.size := (by have h := hb.size; (try simp at h); omega); clear hB hb x_20 z_20 f_20 c_20 o_20 g_20 u_20 Ka_20 Kz_20 Kf_20 Kc_20 Km_20 Ko_20 Kg_20 HB_20 p430 p431 p432 p433 l43 p440 p441 p442 p443 l44 p450 p451 p452 p453 l45; obtain ⟨p460, p461, p462, p463, l46⟩ := Kc_21.out.use4; obtain ⟨p470, p471, p472, p473, l47⟩ := Kf_21.out.use4; obtain ⟨p480, p481, p482, p483, l48⟩ := Kz_21.out.use4)
        refine hK.out _ _ ?_ (fun hHeld => ?_)
        · (try dsimp only); (first | (refine ⟨?_, ?_, ?_, ?_, ?_, ?_, ?_, ?_, ?_, ?_, ?_, ?_⟩ <;> (first | with_reducible assumption | ((with_reducible refine Eq.trans (cell_drew _ _) ?_); with_reducible assumption) | ((rw [cell_far4 _ _ _ _ _ _ _ _ (by omega)]); with_reducible assumption) | ((repeat rw [cell_far2 _ _ _ _ _ _ (by omega)]); with_reducible assumption) | go_keep)) | trivial | go_keep)
        clear hK K
        (try simp only [Act.put, List.setIfInBounds_toArray, List.set_cons_zero, List.set_cons_succ, List.getElem_toArray, List.getElem_cons_succ, List.getElem_cons_zero])
        refine wpAnyH_take (i := 7) (v := ?_) rfl (by kernel_rfl) (by kernel_rfl) (by kernel_rfl) (fun _ _ _ h => h) (Or.inl ⟨by kernel_rfl, ?_⟩) (by assumption) ?_
        rotate_left
        · intro w hSw; (try dsimp only at hSw); go_simp <;> (try with_reducible rfl)
        (try simp only [Act.put, List.setIfInBounds_toArray, List.set_cons_zero, List.set_cons_succ, List.getElem_toArray, List.getElem_cons_succ, List.getElem_cons_zero])
        refine wpAnyH_take (i := 8) (v := ?_) rfl (by kernel_rfl) (by kernel_rfl) (by kernel_rfl) (fun _ _ _ h => h) (Or.inl ⟨by kernel_rfl, ?_⟩) (by assumption) ?_
        rotate_left
        · intro w hSw; (try dsimp only at hSw); go_simp <;> (try with_reducible rfl)
        (try simp only [Act.put, List.setIfInBounds_toArray, List.set_cons_zero, List.set_cons_succ, List.getElem_toArray, List.getElem_cons_succ, List.getElem_cons_zero])
        refine wpAnyH_take (i := 9) (v := undef) rfl (by kernel_rfl) (by kernel_rfl) (by kernel_rfl) (fun _ _ _ h => h) (Or.inr ⟨by kernel_rfl, rfl⟩) (by assumption) ?_
        (try simp only [Act.put, List.setIfInBounds_toArray, List.set_cons_zero, List.set_cons_succ, List.getElem_toArray, List.getElem_cons_succ, List.getElem_cons_zero])
        refine wpAnyH_take (i := 10) (v := undef) rfl (by kernel_rfl) (by kernel_rfl) (by kernel_rfl) (fun _ _ _ h => h) (Or.inr ⟨by kernel_rfl, rfl⟩) (by assumption) ?_
        (try simp only [Act.put, List.setIfInBounds_toArray, List.set_cons_zero, List.set_cons_succ, List.getElem_toArray, List.getElem_cons_succ, List.getElem_cons_zero])
        refine wpAnyH_take (i := 11) (v := undef) rfl (by kernel_rfl) (by kernel_rfl) (by kernel_rfl) (fun _ _ _ h => h) (Or.inr ⟨by kernel_rfl, rfl⟩) (by assumption) ?_
        (try simp only [Act.put, List.setIfInBounds_toArray, List.set_cons_zero, List.set_cons_succ, List.getElem_toArray, List.getElem_cons_succ, List.getElem_cons_zero])
        refine wpAnyH_take (i := 12) (v := undef) rfl (by kernel_rfl) (by kernel_rfl) (by kernel_rfl) (fun _ _ _ h => h) (Or.inr ⟨by kernel_rfl, rfl⟩) (by assumption) ?_
        (try simp only [Act.put, List.setIfInBounds_toArray, List.set_cons_zero, List.set_cons_succ, List.getElem_toArray, List.getElem_cons_succ, List.getElem_cons_zero])
        refine wpAnyH_take (i := 13) (v := undef) rfl (by kernel_rfl) (by kernel_rfl) (by kernel_rfl) (fun _ _ _ h => h) (Or.inr ⟨by kernel_rfl, rfl⟩) (by assumption) ?_
        (try simp only [Act.put, List.setIfInBounds_toArray, List.set_cons_zero, List.set_cons_succ, List.getElem_toArray, List.getElem_cons_succ, List.getElem_cons_zero])
        refine wpAnyH_take (i := 14) (v := undef) rfl (by kernel_rfl) (by kernel_rfl) (by kernel_rfl) (fun _ _ _ h => h) (Or.inr ⟨by kernel_rfl, rfl⟩) (by assumption) ?_
        (try simp only [Act.put, List.setIfInBounds_toArray, List.set_cons_zero, List.set_cons_succ, List.getElem_toArray, List.getElem_cons_succ, List.getElem_cons_zero])
        refine wpAnyH_take (i := 15) (v := undef) rfl (by kernel_rfl) (by kernel_rfl) (by kernel_rfl) (fun _ _ _ h => h) (Or.inr ⟨by kernel_rfl, rfl⟩) (by assumption) ?_
        (try simp only [Act.put, List.setIfInBounds_toArray, List.set_cons_zero, List.set_cons_succ, List.getElem_toArray, List.getElem_cons_succ, List.getElem_cons_zero])
        refine wpAnyH_take (i := 16) (v := undef) rfl (by kernel_rfl) (by kernel_rfl) (by kernel_rfl) (fun _ _ _ h => h) (Or.inr ⟨by kernel_rfl, rfl⟩) (by assumption) ?_
        (try simp only [Act.put, List.setIfInBounds_toArray, List.set_cons_zero, List.set_cons_succ, List.getElem_toArray, List.getElem_cons_succ, List.getElem_cons_zero])
        refine wpAnyH_take (i := 17) (v := undef) rfl (by kernel_rfl) (by kernel_rfl) (by kernel_rfl) (fun _ _ _ h => h) (Or.inr ⟨by kernel_rfl, rfl⟩) (by assumption) ?_
        (try simp only [Act.put, List.setIfInBounds_toArray, List.set_cons_zero, List.set_cons_succ, List.getElem_toArray, List.getElem_cons_succ, List.getElem_cons_zero])
        refine wpAnyH_take (i := 18) (v := ?_) rfl (by kernel_rfl) (by kernel_rfl) (by kernel_rfl) (fun _ _ _ h => h) (Or.inl ⟨by kernel_rfl, ?_⟩) (by assumption) ?_
        rotate_left
        · intro w hSw; (try dsimp only at hSw); go_simp <;> (try with_reducible rfl)
        (try simp only [Act.put, List.setIfInBounds_toArray, List.set_cons_zero, List.set_cons_succ, List.getElem_toArray, List.getElem_cons_succ, List.getElem_cons_zero])
        refine wpAnyH_take (i := 19) (v := ?_) rfl (by kernel_rfl) (by kernel_rfl) (by kernel_rfl) (fun _ _ _ h => h) (Or.inl ⟨by kernel_rfl, ?_⟩) (by assumption) ?_
        rotate_left
        · intro w hSw; (try dsimp only at hSw); go_simp <;> (try with_reducible rfl)
        (try simp only [Act.put, List.setIfInBounds_toArray, List.set_cons_zero, List.set_cons_succ, List.getElem_toArray, List.getElem_cons_succ, List.getElem_cons_zero])
        refine wpAnyH_done (by kernel_rfl) ?_ _
        go_wp2
        go_ret
        exact ⟨by simp, HB_21.out⟩

set_option maxRecDepth 100000 in
set_option maxHeartbeats 1500000 in
theorem whole_yes1 (b00 : Bool) (a00 : Option Addr) (n00 c00 : Nat) (e00 : Bool) (g00 : Option Addr) (m00 k00 : Nat) (w : World) (X Y : Int) (hx : LimR 4 w (.agg #[.bool b00, .slice a00 n00 c00, .bool e00, .slice g00 m00 k00]) X Y) (h0 : (decide (n00 ≤ 4) && decide (m00 ≤ 4)) = true) (hs : cmpQ (ratOf X Y - ((ratOf X Y).floor : Rat)) 0 = 1) :
    Calls Tryz.prog 9 #[(.agg #[.bool b00, .slice a00 n00 c00, .bool e00, .slice g00 m00 k00])] w fun e w' => e = .returned (.bool true) ∧ Below w.heap.size w w' := by
  have F0 := Lib.hid h0
  obtain ⟨x, hq⟩ : ∃ q, q = ratOf X Y := ⟨_, rfl⟩
  rw [← hq] at hs
  have BX := Lib.hid ((lq hq hx).bq (by omega))
  have BZ : Hid (BQ 1 (0 : Rat)) := bq_chk (by decide)
  have BO : Hid (BQ 1 (1 : Rat)) := bq_chk (by decide)
  have hcf := ceil_floor1 hs
  have h1 := floor_cmp x
  have h2 := ceil_cmp x
  have h3 := floor_minus x
  obtain ⟨f, hf⟩ : ∃ f, x - (x.floor : Rat) = f := ⟨_, rfl⟩
  have BF := Lib.hid (hf ▸ bq_fracW BX.out)
  have CC := ceil_ltW BX.out
  have PC := floor_lt BX.out
  rw [hf] at hs
  obtain ⟨c, hc⟩ : ∃ c, ceilQ x = c := ⟨_, rfl⟩
  obtain ⟨p, hp⟩ : ∃ p, x.floor = p := ⟨_, rfl⟩
  obtain ⟨y, hy⟩ : ∃ y, 0 - x = y := ⟨_, rfl⟩
  rw [hc] at hcf h2 h3 CC
  rw [hp] at hcf h1 PC
  rw [hy] at h3
  obtain ⟨c1, e1⟩ : ∃ c1, cmpQ (p : Rat) x = c1 := ⟨_, rfl⟩
  obtain ⟨c2, e2⟩ : ∃ c2, cmpQ (c : Rat) x = c2 := ⟨_, rfl⟩
  rw [e1] at h1
  rw [e2] at h2
  have g1 : decide ((0 : Int) < c1) = false := by rw [decide_eq_false_iff_not]; omega
  have g2 : decide (c2 < (0 : Int)) = false := by rw [decide_eq_false_iff_not]; omega
  obtain ⟨gg, hg⟩ : ∃ gg, y.floor = gg := ⟨_, rfl⟩
  have BY := Lib.hid (hy ▸ bq_sub BZ.out BX.out)
  have BP := Lib.hid (bq_int PC (by omega))
  have BC := Lib.hid (bq_int CC (by omega))
  have BG := Lib.hid (bq_int (k := 6) (z := gg) (by rw [← hg, h3, Int.natAbs_neg]; exact CC) (by omega))
  have EG : Hid ((0 : Rat) - (c : Rat) = (gg : Rat)) := by
    show _ = _
    rw [← hg, h3, Rat.intCast_neg]
    grind
  have HCF := Lib.hid hcf
  have HE1 := Lib.hid e1
  have HE2 := Lib.hid e2
  have HG := Lib.hid hg
  have HY := Lib.hid hy
  have HS := Lib.hid hs
  have HF := Lib.hid hf
  have HC := Lib.hid hc
  have HP := Lib.hid hp
  have HQ := Lib.hid hq
  have x_0 := Lib.hid hx
  clear h0 hq hy hs hf hc hp hx hg e1 e2 hcf h3 CC PC
  go_enter Tryz.func9, Tryz.ntmps9
  go_wp2_with fail
  refine Calls.mono (awake3 _) ?_
  rintro e w1 ⟨rfl, hb⟩
  have hB := bun (hb)
  have x_1 := Lib.hid (x_0.out.below hB)
  have Ka_1 := Lib.hid (show Blk w1 (w.heap.size) 26 #[.bool b00, .slice a00 n00 c00, .bool e00, .slice g00 m00 k00] from (Blk.new _ _ (by simp) _ _).below hb)
  have HB_1 := Lib.hid (hB)
  have hs_1 : w.heap.size ≤ w1.heap.size := HB_1.out.size
  have hz_1 : w.heap.size + 1 ≤ w1.heap.size := (by have h := hb.size; (try simp at h); omega)
  clear hB hb x_0
  obtain ⟨p10, p11, p12, p13, l1⟩ := Ka_1.out.use4
  go_wp2_with fail
  refine Calls.mono (few_is _ _ _ _ _ _ _ _ _ true F0.out) ?_
  rintro e w2 ⟨rfl, hb⟩
  have hB := hb
  have x_2 := Lib.hid (x_1.out.below hB)
  have Ka_2 := Lib.hid (Ka_1.out.below hB)
  have HB_2 := Lib.hid (below_trans HB_1.out hB)
  have hs_2 : w.heap.size ≤ w2.heap.size := HB_2.out.size
  have hz_2 : w1.heap.size + 0 ≤ w2.heap.size := (by have h := hb.size; (try simp at h); omega)
  clear hB hb x_1 Ka_1 HB_1 p10 p11 p12 p13 l1
  go_wp2_with fail
  refine Calls.mono (rzero_any _) ?_
  rintro e w3 ⟨v, rfl, h, hb⟩
  have hk := h
  obtain ⟨b3, A3, n3, c3, d3, B3, m3, k3, rfl, -, -, -, -, -⟩ := h.form
  clear h
  have hB := hb
  have x_3 := Lib.hid (x_2.out.below hB)
  have Ka_3 := Lib.hid (Ka_2.out.below hB)
  have z_3 := Lib.hid (hk)
  have HB_3 := Lib.hid (below_trans HB_2.out hB)
  have hs_3 : w.heap.size ≤ w3.heap.size := HB_3.out.size
  have hz_3 : w2.heap.size + 0 ≤ w3.heap.size := (by have h := hb.size; (try simp at h); omega)
  clear hB hb x_2 Ka_2 HB_2
  go_upto_region 6 with fail
  generalize hW : (w3.alloc (.cells #[.bool b3, .slice A3 n3 c3, .bool d3, .slice B3 m3 k3] 26)) = w4
  have x_4 := Lib.hid (hW ▸ (x_3.out.alloc_ _))
  have z_4 := Lib.hid (hW ▸ (z_3.out.alloc_ _))
  have Ka_4 := Lib.hid (show Blk w4 (w.heap.size) 26 #[.bool b00, .slice a00 n00 c00, .bool e00, .slice g00 m00 k00] from by rw [← hW]; exact (Ka_3.out.alloc_ _))
  have Kz_4 := Lib.hid (show Blk w4 (w3.heap.size) 26 #[.bool b3, .slice A3 n3 c3, .bool d3, .slice B3 m3 k3] from by rw [← hW]; exact Blk.new _ _ (by simp) _ _)
  have HB_4 := Lib.hid (show Below w.heap.size w w4 from by rw [← hW]; exact halloc (HB_3.out))
  have hs_4 : w.heap.size ≤ w4.heap.size := HB_4.out.size
  have hz_4 : w3.heap.size + 1 ≤ w4.heap.size := by rw [← hW]; simp
  clear hW x_3 z_3 Ka_3 HB_3
  go_cut [4] (fun s wx => WCutF w b00 a00 n00 c00 e00 g00 m00 k00 b3 A3 n3 c3 d3 B3 m3 k3 X Y p (w3.heap.size) s wx)
  case first =>
    obtain ⟨p20, p21, p22, p23, l2⟩ := Ka_4.out.use4
    obtain ⟨p30, p31, p32, p33, l3⟩ := Kz_4.out.use4
    have tok0 : True := trivial
    go_region_held3 (fun w' => w'.cell? ⟨w.heap.size, 0, none⟩ = some (.bool b00) ∧ w'.cell? ⟨w.heap.size, 1, none⟩ = some (.slice a00 n00 c00) ∧ w'.cell? ⟨w.heap.size, 2, none⟩ = some (.bool e00) ∧ w'.cell? ⟨w.heap.size, 3, none⟩ = some (.slice g00 m00 k00) ∧ w'.cell? ⟨w3.heap.size, 0, none⟩ = some (.bool b3) ∧ w'.cell? ⟨w3.heap.size, 1, none⟩ = some (.slice A3 n3 c3) ∧ w'.cell? ⟨w3.heap.size, 2, none⟩ = some (.bool d3) ∧ w'.cell? ⟨w3.heap.size, 3, none⟩ = some (.slice B3 m3 k3)) (first | (refine ⟨?_, ?_, ?_, ?_, ?_, ?_, ?_, ?_⟩ <;> (first | with_reducible assumption | ((with_reducible refine Eq.trans (cell_drew _ _) ?_); with_reducible assumption) | ((rw [cell_far4 _ _ _ _ _ _ _ _ (by omega)]); with_reducible assumption) | ((repeat rw [cell_far2 _ _ _ _ _ _ (by omega)]); with_reducible assumption) | go_keep)) | trivial | go_keep)
      (first
        | (go_at_call 33; have _t := tok0; clear _t tok0; ((with_reducible refine Calls.mono (qfloor_is HP.out (lq HQ.out (by first | exact x_4.out | exact x_4.out.drew_ | exact x_4.out.alloc_ _ | exact (x_4.out.alloc_ _).drew_)) (by omega) (by omega)) ?_)); rintro e w5 ⟨v, rfl, h, hb⟩; obtain ⟨b5, A5, n5, c5, rfl, -, -, h⟩ := h.form; have hB := (show Below w4.heap.size w4 w5 from by first | exact hb | exact bundrew hb | exact bun hb | exact bundrew (bun hb) | exact bun (bundrew hb)); have x_5 := Lib.hid (x_4.out.below hB); have z_5 := Lib.hid (z_4.out.below hB); have Ka_5 := Lib.hid (Ka_4.out.below hB); have Kz_5 := Lib.hid (Kz_4.out.below hB); have u_5 := Lib.hid (h); have HB_5 := Lib.hid (below_trans HB_4.out hB); have hs_5 : w.heap.size ≤ w5.heap.size := HB_5.out.size; have hz_5 : w4.heap.size + 0 ≤ w5.heap.size := (by have h := hb.size; (try simp at h); omega); (first | (have K7 := Lib.hid (K7.out.below hB)) | (have K7 := Lib.hid (Blk.below (Blk.new _ _ rfl _ _) hb)) | (have K7 := Lib.hid (Blk.below (Blk.new _ _ rfl _ _).drew_ hb)) | skip); (try (have hg7 := K7.out.lt)); clear hB hb x_4 z_4 Ka_4 Kz_4 HB_4 p20 p21 p22 p23 l2 p30 p31 p32 p33 l3; obtain ⟨p40, p41, p42, p43, l4⟩ := Ka_5.out.use4; obtain ⟨p50, p51, p52, p53, l5⟩ := Kz_5.out.use4; (try (obtain ⟨q0, q1, q2, q3, q4⟩ := K7.out.use4; obtain ⟨q5, q6, q7, q8⟩ := K7.out.into4))))
    all_goals
      go_wp2_with fail
      go_meet
      unfold WCutF
      have hnew := israt_int u_5.out z_5.out
      first
      | (have hk7 := K7.out
         refine ⟨_, _, _, _, _, rfl, ?_, ?_, ?_, ?_, hk7.own4', ?_, ?_, ?_⟩
         · omega
         · exact x_5.out.other4 hk7 nu nu nu nu
         · exact z_5.out.other4 hk7 nu nu nu nu
         · exact hnew.other4 hk7 nu nu nu nu
         · exact Ka_5.out.far4 (by omega)
         · exact Kz_5.out.far4 (by omega)
         · exact bset (bset (bset (bset HB_5.out (by omega)) (by omega)) (by omega)) (by omega))
      | exact ⟨_, _, _, _, _, rfl, by omega, x_5.out.alloc_ _, z_5.out.alloc_ _, hnew.alloc_ _, Blk.new _ _ rfl _ _, Ka_5.out.alloc_ _, Kz_5.out.alloc_ _, halloc HB_5.out⟩
  case rest =>
    obtain ⟨w5, rfl⟩ : ∃ W : World, W = wc := ⟨_, rfl⟩
    obtain ⟨gf, b5, A5, n5, c5, rfl, hl5, q0, q1, q2, q3, q4, q5, q6⟩ := hcut
    have x_5 := Lib.hid q0
    have z_5 := Lib.hid q1
    have f_5 := Lib.hid q2
    have Kf_5 := Lib.hid q3
    have Ka_5 := Lib.hid q4
    have Kz_5 := Lib.hid q5
    have lta_5 : w.heap.size < w5.heap.size := Ka_5.out.lt
    have ltz_5 : w3.heap.size < w5.heap.size := Kz_5.out.lt
    have ltf_5 : gf < w5.heap.size := Kf_5.out.lt
    have HB_5 := Lib.hid q6
    have hs_5 : w.heap.size ≤ w5.heap.size := q6.size
    clear q0 q1 q2 q3 q4 q5 q6
    go_upto_region 7 with fail
    generalize hW : w5 = w6
    have x_6 := Lib.hid (hW ▸ x_5.out)
    have z_6 := Lib.hid (hW ▸ z_5.out)
    have f_6 := Lib.hid (hW ▸ f_5.out)
    have Ka_6 := Lib.hid (show Blk w6 (w.heap.size) 26 #[.bool b00, .slice a00 n00 c00, .bool e00, .slice g00 m00 k00] from by rw [← hW]; exact Ka_5.out)
    have Kz_6 := Lib.hid (show Blk w6 (w3.heap.size) 26 #[.bool b3, .slice A3 n3 c3, .bool d3, .slice B3 m3 k3] from by rw [← hW]; exact Kz_5.out)
    have Kf_6 := Lib.hid (show Blk w6 (gf) 26 #[.bool b5, .slice A5 n5 c5, .bool d3, .slice B3 m3 k3] from by rw [← hW]; exact Kf_5.out)
    have HB_6 := Lib.hid (show Below w.heap.size w w6 from by rw [← hW]; exact HB_5.out)
    have hs_6 : w.heap.size ≤ w6.heap.size := HB_6.out.size
    have hz_6 : w5.heap.size + 0 ≤ w6.heap.size := by rw [← hW]; simp
    clear hW x_5 z_5 f_5 Ka_5 Kz_5 Kf_5 HB_5
    go_cut [5] (fun s wx => WCutC w b00 a00 n00 c00 e00 g00 m00 k00 b3 A3 n3 c3 d3 B3 m3 k3 b5 A5 n5 c5 X Y p c (w3.heap.size) (gf) s wx)
    case first =>
      obtain ⟨p20, p21, p22, p23, l2⟩ := Ka_6.out.use4
      obtain ⟨p30, p31, p32, p33, l3⟩ := Kz_6.out.use4
      have tok0 : True := trivial
      go_region_held3 (fun w' => w'.cell? ⟨w.heap.size, 0, none⟩ = some (.bool b00) ∧ w'.cell? ⟨w.heap.size, 1, none⟩ = some (.slice a00 n00 c00) ∧ w'.cell? ⟨w.heap.size, 2, none⟩ = some (.bool e00) ∧ w'.cell? ⟨w.heap.size, 3, none⟩ = some (.slice g00 m00 k00) ∧ w'.cell? ⟨w3.heap.size, 0, none⟩ = some (.bool b3) ∧ w'.cell? ⟨w3.heap.size, 1, none⟩ = some (.slice A3 n3 c3) ∧ w'.cell? ⟨w3.heap.size, 2, none⟩ = some (.bool d3) ∧ w'.cell? ⟨w3.heap.size, 3, none⟩ = some (.slice B3 m3 k3)) (first | (refine ⟨?_, ?_, ?_, ?_, ?_, ?_, ?_, ?_⟩ <;> (first | with_reducible assumption | ((with_reducible refine Eq.trans (cell_drew _ _) ?_); with_reducible assumption) | ((rw [cell_far4 _ _ _ _ _ _ _ _ (by omega)]); with_reducible assumption) | ((repeat rw [cell_far2 _ _ _ _ _ _ (by omega)]); with_reducible assumption) | go_keep)) | trivial | go_keep)
        (first
          | (go_at_call 35; have _t := tok0; clear _t tok0; ((with_reducible refine Calls.mono (qceil_is HC.out (lq HQ.out (by first | exact x_6.out | exact x_6.out.drew_ | exact x_6.out.alloc_ _ | exact (x_6.out.alloc_ _).drew_)) (by omega) (by omega)) ?_)); rintro e w7 ⟨v, rfl, h, hb⟩; obtain ⟨b7, A7, n7, c7, rfl, -, -, h⟩ := h.form; have hB := (show Below w6.heap.size w6 w7 from by first | exact hb | exact bundrew hb | exact bun hb | exact bundrew (bun hb) | exact bun (bundrew hb)); have x_7 := Lib.hid (x_6.out.below hB); have z_7 := Lib.hid (z_6.out.below hB); have f_7 := Lib.hid (f_6.out.below hB); have Ka_7 := Lib.hid (Ka_6.out.below hB); have Kz_7 := Lib.hid (Kz_6.out.below hB); have Kf_7 := Lib.hid (Kf_6.out.below hB); have u_7 := Lib.hid (h); have HB_7 := Lib.hid (below_trans HB_6.out hB); have hs_7 : w.heap.size ≤ w7.heap.size := HB_7.out.size; have hz_7 : w6.heap.size + 0 ≤ w7.heap.size := (by have h := hb.size; (try simp at h); omega); (first | (have K7 := Lib.hid (K7.out.below hB)) | (have K7 := Lib.hid (Blk.below (Blk.new _ _ rfl _ _) hb)) | (have K7 := Lib.hid (Blk.below (Blk.new _ _ rfl _ _).drew_ hb)) | skip); (try (have hg7 := K7.out.lt)); clear hB hb x_6 z_6 f_6 Ka_6 Kz_6 Kf_6 HB_6 p20 p21 p22 p23 l2 p30 p31 p32 p33 l3; obtain ⟨p40, p41, p42, p43, l4⟩ := Ka_7.out.use4; obtain ⟨p50, p51, p52, p53, l5⟩ := Kz_7.out.use4; (try (obtain ⟨q0, q1, q2, q3, q4⟩ := K7.out.use4; obtain ⟨q5, q6, q7, q8⟩ := K7.out.into4))))
      all_goals
        go_wp2_with fail
        go_meet
        unfold WCutC
        have hnew := israt_int u_7.out z_7.out
        first
        | (have hk7 := K7.out
           refine ⟨_, _, _, _, _, rfl, ?_, ?_, ?_, ?_, ?_, hk7.own4', ?_, ?_, ?_, ?_⟩
           · omega
           · exact x_7.out.other4 hk7 nu nu nu nu
           · exact z_7.out.other4 hk7 nu nu nu nu
           · exact f_7.out.other4 hk7 nu nu nu nu
           · exact hnew.other4 hk7 nu nu nu nu
           · exact Ka_7.out.far4 (by omega)
           · exact Kz_7.out.far4 (by omega)
           · exact Kf_7.out.far4 (by omega)
           · exact bset (bset (bset (bset HB_7.out (by omega)) (by omega)) (by omega)) (by omega))
        | exact ⟨_, _, _, _, _, rfl, by omega, x_7.out.alloc_ _, z_7.out.alloc_ _, f_7.out.alloc_ _, hnew.alloc_ _, Blk.new _ _ rfl _ _, Ka_7.out.alloc_ _, Kz_7.out.alloc_ _, Kf_7.out.alloc_ _, halloc HB_7.out⟩
    case rest =>
      obtain ⟨w7, rfl⟩ : ∃ W : World, W = wc := ⟨_, rfl⟩
      obtain ⟨gc, b7, A7, n7, c7, rfl, hl7, q0, q1, q2, q3, q4, q5, q6, q7, q8⟩ := hcut
      have x_7 := Lib.hid q0
      have z_7 := Lib.hid q1
      have f_7 := Lib.hid q2
      have c_7 := Lib.hid q3
      have Kc_7 := Lib.hid q4
      have Ka_7 := Lib.hid q5
      have Kz_7 := Lib.hid q6
      have Kf_7 := Lib.hid q7
      have lta_7 : w.heap.size < w7.heap.size := Ka_7.out.lt
      have ltz_7 : w3.heap.size < w7.heap.size := Kz_7.out.lt
      have ltf_7 : gf < w7.heap.size := Kf_7.out.lt
      have ltc_7 : gc < w7.heap.size := Kc_7.out.lt
      have HB_7 := Lib.hid q8
      have hs_7 : w.heap.size ≤ w7.heap.size := q8.size
      clear q0 q1 q2 q3 q4 q5 q6 q7 q8
      obtain ⟨p20, p21, p22, p23, l2⟩ := Kz_7.out.use4
      obtain ⟨p30, p31, p32, p33, l3⟩ := Ka_7.out.use4
      go_wp2_with fail
      refine Calls.mono (qsubB_is HY.out (irqB BZ.out z_7.out) (lq HQ.out x_7.out) (by omega) (by omega) (by omega) (by omega)) ?_
      rintro e w8 ⟨v, rfl, h, hb⟩
      have hk := h
      obtain ⟨b8, A8, n8, c8, d8, B8, m8, k8, rfl, -, -, -, -, -⟩ := h.form
      clear h
      have hB := hb
      have x_8 := Lib.hid (x_7.out.below hB)
      have z_8 := Lib.hid (z_7.out.below hB)
      have f_8 := Lib.hid (f_7.out.below hB)
      have c_8 := Lib.hid (c_7.out.below hB)
      have Ka_8 := Lib.hid (Ka_7.out.below hB)
      have Kz_8 := Lib.hid (Kz_7.out.below hB)
      have Kf_8 := Lib.hid (Kf_7.out.below hB)
      have Kc_8 := Lib.hid (Kc_7.out.below hB)
      have m_8 := Lib.hid (hk)
      have HB_8 := Lib.hid (below_trans HB_7.out hB)
      have hs_8 : w.heap.size ≤ w8.heap.size := HB_8.out.size
      have hz_8 : w7.heap.size + 0 ≤ w8.heap.size := (by have h := hb.size; (try simp at h); omega)
      clear hB hb x_7 z_7 f_7 c_7 Ka_7 Kz_7 Kf_7 Kc_7 HB_7 p20 p21 p22 p23 l2 p30 p31 p32 p33 l3
      go_wp2_with fail
      refine Calls.mono (of_oneW _) ?_
      rintro e w9 ⟨v, rfl, h, hb⟩
      have hk := h
      obtain ⟨b9, A9, n9, c9, d9, B9, m9, k9, rfl, -, -, -, -, -⟩ := h.form
      clear h
      have hB := bun (hb)
      have x_9 := Lib.hid (x_8.out.below hB)
      have z_9 := Lib.hid (z_8.out.below hB)
      have f_9 := Lib.hid (f_8.out.below hB)
      have c_9 := Lib.hid (c_8.out.below hB)
      have m_9 := Lib.hid (m_8.out.below hB)
      have Ka_9 := Lib.hid (Ka_8.out.below hB)
      have Kz_9 := Lib.hid (Kz_8.out.below hB)
      have Kf_9 := Lib.hid (Kf_8.out.below hB)
      have Kc_9 := Lib.hid (Kc_8.out.below hB)
      have Km_9 := Lib.hid (show Blk w9 (w8.heap.size) 26 #[.bool b8, .slice A8 n8 c8, .bool d8, .slice B8 m8 k8] from (Blk.new _ _ (by simp) _ _).below hb)
      have o_9 := Lib.hid (hk)
      have HB_9 := Lib.hid (below_trans HB_8.out hB)
      have hs_9 : w.heap.size ≤ w9.heap.size := HB_9.out.size
      have hz_9 : w8.heap.size + 1 ≤ w9.heap.size := (by have h := hb.size; (try simp at h); omega)
      clear hB hb x_8 z_8 f_8 c_8 m_8 Ka_8 Kz_8 Kf_8 Kc_8 HB_8
      go_wp2
      generalize hW : (w9.alloc (.cells #[.bool b9, .slice A9 n9 c9, .bool d9, .slice B9 m9 k9] 26)) = w10
      have x_10 := Lib.hid (hW ▸ (x_9.out.alloc_ _))
      have z_10 := Lib.hid (hW ▸ (z_9.out.alloc_ _))
      have f_10 := Lib.hid (hW ▸ (f_9.out.alloc_ _))
      have c_10 := Lib.hid (hW ▸ (c_9.out.alloc_ _))
      have m_10 := Lib.hid (hW ▸ (m_9.out.alloc_ _))
      have o_10 := Lib.hid (hW ▸ (o_9.out.alloc_ _))
      have Ka_10 := Lib.hid (show Blk w10 (w.heap.size) 26 #[.bool b00, .slice a00 n00 c00, .bool e00, .slice g00 m00 k00] from by rw [← hW]; exact (Ka_9.out.alloc_ _))
      have Kz_10 := Lib.hid (show Blk w10 (w3.heap.size) 26 #[.bool b3, .slice A3 n3 c3, .bool d3, .slice B3 m3 k3] from by rw [← hW]; exact (Kz_9.out.alloc_ _))
      have Kf_10 := Lib.hid (show Blk w10 (gf) 26 #[.bool b5, .slice A5 n5 c5, .bool d3, .slice B3 m3 k3] from by rw [← hW]; exact (Kf_9.out.alloc_ _))
      have Kc_10 := Lib.hid (show Blk w10 (gc) 26 #[.bool b7, .slice A7 n7 c7, .bool d3, .slice B3 m3 k3] from by rw [← hW]; exact (Kc_9.out.alloc_ _))
      have Km_10 := Lib.hid (show Blk w10 (w8.heap.size) 26 #[.bool b8, .slice A8 n8 c8, .bool d8, .slice B8 m8 k8] from by rw [← hW]; exact (Km_9.out.alloc_ _))
      have Ko_10 := Lib.hid (show Blk w10 (w9.heap.size) 26 #[.bool b9, .slice A9 n9 c9, .bool d9, .slice B9 m9 k9] from by rw [← hW]; exact Blk.new _ _ (by simp) _ _)
      have HB_10 := Lib.hid (show Below w.heap.size w w10 from by rw [← hW]; exact halloc (HB_9.out))
      have hs_10 : w.heap.size ≤ w10.heap.size := HB_10.out.size
      have hz_10 : w9.heap.size + 1 ≤ w10.heap.size := by rw [← hW]; simp
      clear hW x_9 z_9 f_9 c_9 m_9 o_9 Ka_9 Kz_9 Kf_9 Kc_9 Km_9 HB_9
      obtain ⟨p40, p41, p42, p43, l4⟩ := Ka_10.out.use4
      obtain ⟨p50, p51, p52, p53, l5⟩ := Kz_10.out.use4
      have tok0 : True := trivial
      have tok1 : True := trivial
      go_region_held3 (fun w' => w'.cell? ⟨w.heap.size, 0, none⟩ = some (.bool b00) ∧ w'.cell? ⟨w.heap.size, 1, none⟩ = some (.slice a00 n00 c00) ∧ w'.cell? ⟨w.heap.size, 2, none⟩ = some (.bool e00) ∧ w'.cell? ⟨w.heap.size, 3, none⟩ = some (.slice g00 m00 k00) ∧ w'.cell? ⟨w3.heap.size, 0, none⟩ = some (.bool b3) ∧ w'.cell? ⟨w3.heap.size, 1, none⟩ = some (.slice A3 n3 c3) ∧ w'.cell? ⟨w3.heap.size, 2, none⟩ = some (.bool d3) ∧ w'.cell? ⟨w3.heap.size, 3, none⟩ = some (.slice B3 m3 k3)) (first | (refine ⟨?_, ?_, ?_, ?_, ?_, ?_, ?_, ?_⟩ <;> (first | with_reducible assumption | ((with_reducible refine Eq.trans (cell_drew _ _) ?_); with_reducible assumption) | ((rw [cell_far4 _ _ _ _ _ _ _ _ (by omega)]); with_reducible assumption) | ((repeat rw [cell_far2 _ _ _ _ _ _ (by omega)]); with_reducible assumption) | go_keep)) | trivial | go_keep)
        (first
          | (go_at_call 31; have _t := tok0; clear _t tok0; ((with_reducible refine Calls.mono (qfrac_is HF.out (lq HQ.out (by first | exact x_10.out | exact x_10.out.drew_ | exact x_10.out.alloc_ _ | exact (x_10.out.alloc_ _).drew_)) (by omega) (by omega)) ?_)); rintro e w11 ⟨v, rfl, h, hb⟩; have hk := h; obtain ⟨b11, A11, n11, c11, d11, B11, m11, k11, rfl, -, -, -, -, -⟩ := h.form; clear h; have hB := (show Below w10.heap.size w10 w11 from by first | exact hb | exact bundrew hb | exact bun hb | exact bundrew (bun hb) | exact bun (bundrew hb)); have x_11 := Lib.hid (x_10.out.below hB); have z_11 := Lib.hid (z_10.out.below hB); have f_11 := Lib.hid (f_10.out.below hB); have c_11 := Lib.hid (c_10.out.below hB); have m_11 := Lib.hid (m_10.out.below hB); have o_11 := Lib.hid (o_10.out.below hB); have Ka_11 := Lib.hid (Ka_10.out.below hB); have Kz_11 := Lib.hid (Kz_10.out.below hB); have Kf_11 := Lib.hid (Kf_10.out.below hB); have Kc_11 := Lib.hid (Kc_10.out.below hB); have Km_11 := Lib.hid (Km_10.out.below hB); have Ko_11 := Lib.hid (Ko_10.out.below hB); have fr_11 := Lib.hid (hk); have HB_11 := Lib.hid (below_trans HB_10.out hB); have hs_11 : w.heap.size ≤ w11.heap.size := HB_11.out.size; have hz_11 : w10.heap.size + 0 ≤ w11.heap.size := (by have h := hb.size; (try simp at h); omega); clear hB hb x_10 z_10 f_10 c_10 m_10 o_10 Ka_10 Kz_10 Kf_10 Kc_10 Km_10 Ko_10 HB_10 p40 p41 p42 p43 l4 p50 p51 p52 p53 l5; obtain ⟨p60, p61, p62, p63, l6⟩ := Ka_11.out.use4; obtain ⟨p70, p71, p72, p73, l7⟩ := Kz_11.out.use4)
          | (go_at_call 21; have _t := tok1; clear _t tok1; ((with_reducible refine Calls.mono (qcmp_is HS.out (irqB BF.out (by first | exact fr_11.out | exact fr_11.out.drew_ | exact fr_11.out.alloc_ _ | exact (fr_11.out.alloc_ _).drew_)) (irqB BZ.out (by first | exact z_11.out | exact z_11.out.drew_ | exact z_11.out.alloc_ _ | exact (z_11.out.alloc_ _).drew_)) (by omega) (by omega) (by omega) (by omega)) ?_)); rintro e w12 ⟨rfl, hb⟩; have hB := (show Below w11.heap.size w11 w12 from by first | exact hb | exact bundrew hb | exact bun hb | exact bundrew (bun hb) | exact bun (bundrew hb)); have x_12 := Lib.hid (x_11.out.below hB); have z_12 := Lib.hid (z_11.out.below hB); have f_12 := Lib.hid (f_11.out.below hB); have c_12 := Lib.hid (c_11.out.below hB); have m_12 := Lib.hid (m_11.out.below hB); have o_12 := Lib.hid (o_11.out.below hB); have Ka_12 := Lib.hid (Ka_11.out.below hB); have Kz_12 := Lib.hid (Kz_11.out.below hB); have Kf_12 := Lib.hid (Kf_11.out.below hB); have Kc_12 := Lib.hid (Kc_11.out.below hB); have Km_12 := Lib.hid (Km_11.out.below hB); have Ko_12 := Lib.hid (Ko_11.out.below hB); have HB_12 := Lib.hid (below_trans HB_11.out hB); have hs_12 : w.heap.size ≤ w12.heap.size := HB_12.out.size; have hz_12 : w11.heap.size + 0 ≤ w12.heap.size := (by have h := hb.size; (try simp at h); omega); clear hB hb x_11 z_11 f_11 c_11 m_11 o_11 fr_11 Ka_11 Kz_11 Kf_11 Kc_11 Km_11 Ko_11 HB_11 p60 p61 p62 p63 l6 p70 p71 p72 p73 l7; obtain ⟨p80, p81, p82, p83, l8⟩ := Ka_12.out.use4; obtain ⟨p90, p91, p92, p93, l9⟩ := Kz_12.out.use4))
      go_upto_region 11 with fail
      generalize hW : w12 = w13
      have x_13 := Lib.hid (hW ▸ x_12.out)
      have z_13 := Lib.hid (hW ▸ z_12.out)
      have f_13 := Lib.hid (hW ▸ f_12.out)
      have c_13 := Lib.hid (hW ▸ c_12.out)
      have m_13 := Lib.hid (hW ▸ m_12.out)
      have o_13 := Lib.hid (hW ▸ o_12.out)
      have Ka_13 := Lib.hid (show Blk w13 (w.heap.size) 26 #[.bool b00, .slice a00 n00 c00, .bool e00, .slice g00 m00 k00] from by rw [← hW]; exact Ka_12.out)
      have Kz_13 := Lib.hid (show Blk w13 (w3.heap.size) 26 #[.bool b3, .slice A3 n3 c3, .bool d3, .slice B3 m3 k3] from by rw [← hW]; exact Kz_12.out)
      have Kf_13 := Lib.hid (show Blk w13 (gf) 26 #[.bool b5, .slice A5 n5 c5, .bool d3, .slice B3 m3 k3] from by rw [← hW]; exact Kf_12.out)
      have Kc_13 := Lib.hid (show Blk w13 (gc) 26 #[.bool b7, .slice A7 n7 c7, .bool d3, .slice B3 m3 k3] from by rw [← hW]; exact Kc_12.out)
      have Km_13 := Lib.hid (show Blk w13 (w8.heap.size) 26 #[.bool b8, .slice A8 n8 c8, .bool d8, .slice B8 m8 k8] from by rw [← hW]; exact Km_12.out)
      have Ko_13 := Lib.hid (show Blk w13 (w9.heap.size) 26 #[.bool b9, .slice A9 n9 c9, .bool d9, .slice B9 m9 k9] from by rw [← hW]; exact Ko_12.out)
      have HB_13 := Lib.hid (show Below w.heap.size w w13 from by rw [← hW]; exact HB_12.out)
      have hs_13 : w.heap.size ≤ w13.heap.size := HB_13.out.size
      have hz_13 : w12.heap.size + 0 ≤ w13.heap.size := by rw [← hW]; simp
      clear hW x_12 z_12 f_12 c_12 m_12 o_12 Ka_12 Kz_12 Kf_12 Kc_12 Km_12 Ko_12 HB_12 p80 p81 p82 p83 l8 p90 p91 p92 p93 l9
      go_cut [10] (fun s wx => WCutG w b00 a00 n00 c00 e00 g00 m00 k00 b3 A3 n3 c3 d3 B3 m3 k3 b5 A5 n5 c5 b7 A7 n7 c7 b8 A8 n8 c8 d8 B8 m8 k8 b9 A9 n9 c9 d9 B9 m9 k9 X Y p c gg y (w3.heap.size) (gf) (gc) (w8.heap.size) (w9.heap.size) s wx)
      case first =>
        obtain ⟨p100, p101, p102, p103, l10⟩ := Km_13.out.use4
        obtain ⟨p110, p111, p112, p113, l11⟩ := Kz_13.out.use4
        have tok0 : True := trivial
        go_region_held3 (fun w' => w'.cell? ⟨w8.heap.size, 0, none⟩ = some (.bool b8) ∧ w'.cell? ⟨w8.heap.size, 1, none⟩ = some (.slice A8 n8 c8) ∧ w'.cell? ⟨w8.heap.size, 2, none⟩ = some (.bool d8) ∧ w'.cell? ⟨w8.heap.size, 3, none⟩ = some (.slice B8 m8 k8) ∧ w'.cell? ⟨w3.heap.size, 0, none⟩ = some (.bool b3) ∧ w'.cell? ⟨w3.heap.size, 1, none⟩ = some (.slice A3 n3 c3) ∧ w'.cell? ⟨w3.heap.size, 2, none⟩ = some (.bool d3) ∧ w'.cell? ⟨w3.heap.size, 3, none⟩ = some (.slice B3 m3 k3)) (first | (refine ⟨?_, ?_, ?_, ?_, ?_, ?_, ?_, ?_⟩ <;> (first | with_reducible assumption | ((with_reducible refine Eq.trans (cell_drew _ _) ?_); with_reducible assumption) | ((rw [cell_far4 _ _ _ _ _ _ _ _ (by omega)]); with_reducible assumption) | ((repeat rw [cell_far2 _ _ _ _ _ _ (by omega)]); with_reducible assumption) | go_keep)) | trivial | go_keep)
          (first
            | (go_at_call 33; have _t := tok0; clear _t tok0; ((with_reducible refine Calls.mono (qfloor_is HG.out (irqB BY.out (by first | exact m_13.out | exact m_13.out.drew_ | exact m_13.out.alloc_ _ | exact (m_13.out.alloc_ _).drew_)) (by omega) (by omega)) ?_)); rintro e w14 ⟨v, rfl, h, hb⟩; obtain ⟨b14, A14, n14, c14, rfl, -, -, h⟩ := h.form; have hB := (show Below w13.heap.size w13 w14 from by first | exact hb | exact bundrew hb | exact bun hb | exact bundrew (bun hb) | exact bun (bundrew hb)); have x_14 := Lib.hid (x_13.out.below hB); have z_14 := Lib.hid (z_13.out.below hB); have f_14 := Lib.hid (f_13.out.below hB); have c_14 := Lib.hid (c_13.out.below hB); have m_14 := Lib.hid (m_13.out.below hB); have o_14 := Lib.hid (o_13.out.below hB); have Ka_14 := Lib.hid (Ka_13.out.below hB); have Kz_14 := Lib.hid (Kz_13.out.below hB); have Kf_14 := Lib.hid (Kf_13.out.below hB); have Kc_14 := Lib.hid (Kc_13.out.below hB); have Km_14 := Lib.hid (Km_13.out.below hB); have Ko_14 := Lib.hid (Ko_13.out.below hB); have u_14 := Lib.hid (h); have HB_14 := Lib.hid (below_trans HB_13.out hB); have hs_14 : w.heap.size ≤ w14.heap.size := HB_14.out.size; have hz_14 : w13.heap.size + 0 ≤ w14.heap.size := (by have h := hb.size; (try simp at h); omega); (first | (have K7 := Lib.hid (K7.out.below hB)) | (have K7 := Lib.hid (Blk.below (Blk.new _ _ rfl _ _) hb)) | (have K7 := Lib.hid (Blk.below (Blk.new _ _ rfl _ _).drew_ hb)) | skip); (try (have hg7 := K7.out.lt)); clear hB hb x_13 z_13 f_13 c_13 m_13 o_13 Ka_13 Kz_13 Kf_13 Kc_13 Km_13 Ko_13 HB_13 p100 p101 p102 p103 l10 p110 p111 p112 p113 l11; obtain ⟨p120, p121, p122, p123, l12⟩ := Km_14.out.use4; obtain ⟨p130, p131, p132, p133, l13⟩ := Kz_14.out.use4; (try (obtain ⟨q0, q1, q2, q3, q4⟩ := K7.out.use4; obtain ⟨q5, q6, q7, q8⟩ := K7.out.into4))))
        all_goals
          go_wp2_with fail
          go_meet
          unfold WCutG
          have hnew := israt_int u_14.out z_14.out
          first
          | (have hk7 := K7.out
             refine ⟨_, _, _, _, _, rfl, ?_, ?_, ?_, ?_, ?_, ?_, ?_, hk7.own4', ?_, ?_, ?_, ?_, ?_, ?_, ?_⟩
             · omega
             · exact x_14.out.other4 hk7 nu nu nu nu
             · exact z_14.out.other4 hk7 nu nu nu nu
             · exact f_14.out.other4 hk7 nu nu nu nu
             · exact c_14.out.other4 hk7 nu nu nu nu
             · exact o_14.out.other4 hk7 nu nu nu nu
             · exact hnew.other4 hk7 nu nu nu nu
             · exact Ka_14.out.far4 (by omega)
             · exact Kz_14.out.far4 (by omega)
             · exact Kf_14.out.far4 (by omega)
             · exact Kc_14.out.far4 (by omega)
             · exact Km_14.out.far4 (by omega)
             · exact Ko_14.out.far4 (by omega)
             · exact bset (bset (bset (bset HB_14.out (by omega)) (by omega)) (by omega)) (by omega))
          | exact ⟨_, _, _, _, _, rfl, by omega, x_14.out.alloc_ _, z_14.out.alloc_ _, f_14.out.alloc_ _, c_14.out.alloc_ _, o_14.out.alloc_ _, hnew.alloc_ _, Blk.new _ _ rfl _ _, Ka_14.out.alloc_ _, Kz_14.out.alloc_ _, Kf_14.out.alloc_ _, Kc_14.out.alloc_ _, Km_14.out.alloc_ _, Ko_14.out.alloc_ _, halloc HB_14.out⟩
      case rest =>
        obtain ⟨w14, rfl⟩ : ∃ W : World, W = wc := ⟨_, rfl⟩
        obtain ⟨gg, b14, A14, n14, c14, rfl, hl14, q0, q1, q2, q3, q4, q5, q6, q7, q8, q9, q10, q11, q12, q13⟩ := hcut
        have x_14 := Lib.hid q0
        have z_14 := Lib.hid q1
        have f_14 := Lib.hid q2
        have c_14 := Lib.hid q3
        have o_14 := Lib.hid q4
        have g_14 := Lib.hid q5
        have Kg_14 := Lib.hid q6
        have Ka_14 := Lib.hid q7
        have Kz_14 := Lib.hid q8
        have Kf_14 := Lib.hid q9
        have Kc_14 := Lib.hid q10
        have Km_14 := Lib.hid q11
        have Ko_14 := Lib.hid q12
        have lta_14 : w.heap.size < w14.heap.size := Ka_14.out.lt
        have ltz_14 : w3.heap.size < w14.heap.size := Kz_14.out.lt
        have ltf_14 : gf < w14.heap.size := Kf_14.out.lt
        have ltc_14 : gc < w14.heap.size := Kc_14.out.lt
        have ltm_14 : w8.heap.size < w14.heap.size := Km_14.out.lt
        have lto_14 : w9.heap.size < w14.heap.size := Ko_14.out.lt
        have ltg_14 : gg < w14.heap.size := Kg_14.out.lt
        have HB_14 := Lib.hid q13
        have hs_14 : w.heap.size ≤ w14.heap.size := q13.size
        clear q0 q1 q2 q3 q4 q5 q6 q7 q8 q9 q10 q11 q12 q13
        go_wp2
        obtain ⟨p100, p101, p102, p103, l10⟩ := Kz_14.out.use4
        obtain ⟨p110, p111, p112, p113, l11⟩ := Kc_14.out.use4
        obtain ⟨p120, p121, p122, p123, l12⟩ := Kg_14.out.use4
        obtain ⟨p130, p131, p132, p133, l13⟩ := Kf_14.out.use4
        obtain ⟨p140, p141, p142, p143, l14⟩ := Ka_14.out.use4
        have tok0 : True := trivial
        have tok1 : True := trivial
        have tok2 : True := trivial
        have tok3 : True := trivial
        have tok4 : True := trivial
        go_region_held3 (fun w' => w'.cell? ⟨w3.heap.size, 0, none⟩ = some (.bool b3) ∧ w'.cell? ⟨w3.heap.size, 1, none⟩ = some (.slice A3 n3 c3) ∧ w'.cell? ⟨w3.heap.size, 2, none⟩ = some (.bool d3) ∧ w'.cell? ⟨w3.heap.size, 3, none⟩ = some (.slice B3 m3 k3) ∧ w'.cell? ⟨gc, 0, none⟩ = some (.bool b7) ∧ w'.cell? ⟨gc, 1, none⟩ = some (.slice A7 n7 c7) ∧ w'.cell? ⟨gc, 2, none⟩ = some (.bool d3) ∧ w'.cell? ⟨gc, 3, none⟩ = some (.slice B3 m3 k3) ∧ w'.cell? ⟨gg, 0, none⟩ = some (.bool b14) ∧ w'.cell? ⟨gg, 1, none⟩ = some (.slice A14 n14 c14) ∧ w'.cell? ⟨gg, 2, none⟩ = some (.bool d3) ∧ w'.cell? ⟨gg, 3, none⟩ = some (.slice B3 m3 k3) ∧ w'.cell? ⟨gf, 0, none⟩ = some (.bool b5) ∧ w'.cell? ⟨gf, 1, none⟩ = some (.slice A5 n5 c5) ∧ w'.cell? ⟨gf, 2, none⟩ = some (.bool d3) ∧ w'.cell? ⟨gf, 3, none⟩ = some (.slice B3 m3 k3) ∧ w'.cell? ⟨w.heap.size, 0, none⟩ = some (.bool b00) ∧ w'.cell? ⟨w.heap.size, 1, none⟩ = some (.slice a00 n00 c00) ∧ w'.cell? ⟨w.heap.size, 2, none⟩ = some (.bool e00) ∧ w'.cell? ⟨w.heap.size, 3, none⟩ = some (.slice g00 m00 k00)) (first | (refine ⟨?_, ?_, ?_, ?_, ?_, ?_, ?_, ?_, ?_, ?_, ?_, ?_, ?_, ?_, ?_, ?_, ?_, ?_, ?_, ?_⟩ <;> (first | with_reducible assumption | ((with_reducible refine Eq.trans (cell_drew _ _) ?_); with_reducible assumption) | ((rw [cell_far4 _ _ _ _ _ _ _ _ (by omega)]); with_reducible assumption) | ((repeat rw [cell_far2 _ _ _ _ _ _ (by omega)]); with_reducible assumption) | go_keep)) | trivial | go_keep)
          (first
            | (go_at_call 25; have _t := tok0; clear _t tok0; ((with_reducible refine Calls.mono (qsubB_is EG.out (irqB BZ.out (by first | exact z_14.out | exact z_14.out.drew_ | exact z_14.out.alloc_ _ | exact (z_14.out.alloc_ _).drew_)) (irqB BC.out (by first | exact c_14.out | exact c_14.out.drew_ | exact c_14.out.alloc_ _ | exact (c_14.out.alloc_ _).drew_)) (by omega) (by omega) (by omega) (by omega)) ?_)); rintro e w15 ⟨v, rfl, h, hb⟩; have hk := h; obtain ⟨b15, A15, n15, c15, d15, B15, m15, k15, rfl, -, -, -, -, -⟩ := h.form; clear h; have hB := (show Below w14.heap.size w14 w15 from by first | exact hb | exact bundrew hb | exact bun hb | exact bundrew (bun hb) | exact bun (bundrew hb)); have x_15 := Lib.hid (x_14.out.below hB); have z_15 := Lib.hid (z_14.out.below hB); have f_15 := Lib.hid (f_14.out.below hB); have c_15 := Lib.hid (c_14.out.below hB); have o_15 := Lib.hid (o_14.out.below hB); have g_15 := Lib.hid (g_14.out.below hB); have Ka_15 := Lib.hid (Ka_14.out.below hB); have Kz_15 := Lib.hid (Kz_14.out.below hB); have Kf_15 := Lib.hid (Kf_14.out.below hB); have Kc_15 := Lib.hid (Kc_14.out.below hB); have Km_15 := Lib.hid (Km_14.out.below hB); have Ko_15 := Lib.hid (Ko_14.out.below hB); have Kg_15 := Lib.hid (Kg_14.out.below hB); have u_15 := Lib.hid (hk); have HB_15 := Lib.hid (below_trans HB_14.out hB); have hs_15 : w.heap.size ≤ w15.heap.size := HB_15.out.size; have hz_15 : w14.heap.size + 0 ≤ w15.heap.size := (by have h := hb.size; (try simp at h); omega); clear hB hb x_14 z_14 f_14 c_14 o_14 g_14 Ka_14 Kz_14 Kf_14 Kc_14 Km_14 Ko_14 Kg_14 HB_14 p100 p101 p102 p103 l10 p110 p111 p112 p113 l11 p120 p121 p122 p123 l12 p130 p131 p132 p133 l13 p140 p141 p142 p143 l14; obtain ⟨p150, p151, p152, p153, l15⟩ := Kz_15.out.use4; obtain ⟨p160, p161, p162, p163, l16⟩ := Kc_15.out.use4; obtain ⟨p170, p171, p172, p173, l17⟩ := Kg_15.out.use4; obtain ⟨p180, p181, p182, p183, l18⟩ := Kf_15.out.use4; obtain ⟨p190, p191, p192, p193, l19⟩ := Ka_15.out.use4)
            | (go_at_call 19; have _t := tok1; clear _t tok1; ((with_reducible refine Calls.mono (q_plain (irqB BG.out (by first | exact g_15.out | exact g_15.out.drew_ | exact g_15.out.alloc_ _ | exact (g_15.out.alloc_ _).drew_)) (by omega) (by omega)) ?_)); rintro e w16 ⟨v, rfl, h, hb⟩; have hk := h; obtain ⟨b16, A16, n16, c16, d16, B16, m16, k16, rfl, -, -, -, -, -⟩ := h.form; clear h; have hB := (show Below w15.heap.size w15 w16 from by first | exact hb | exact bundrew hb | exact bun hb | exact bundrew (bun hb) | exact bun (bundrew hb)); have x_16 := Lib.hid (x_15.out.below hB); have z_16 := Lib.hid (z_15.out.below hB); have f_16 := Lib.hid (f_15.out.below hB); have c_16 := Lib.hid (c_15.out.below hB); have o_16 := Lib.hid (o_15.out.below hB); have g_16 := Lib.hid (g_15.out.below hB); have u_16 := Lib.hid (u_15.out.below hB); have Ka_16 := Lib.hid (Ka_15.out.below hB); have Kz_16 := Lib.hid (Kz_15.out.below hB); have Kf_16 := Lib.hid (Kf_15.out.below hB); have Kc_16 := Lib.hid (Kc_15.out.below hB); have Km_16 := Lib.hid (Km_15.out.below hB); have Ko_16 := Lib.hid (Ko_15.out.below hB); have Kg_16 := Lib.hid (Kg_15.out.below hB); have v_16 := Lib.hid (hk); have HB_16 := Lib.hid (below_trans HB_15.out hB); have hs_16 : w.heap.size ≤ w16.heap.size := HB_16.out.size; have hz_16 : w15.heap.size + 0 ≤ w16.heap.size := (by have h := hb.size; (try simp at h); omega); clear hB hb x_15 z_15 f_15 c_15 o_15 g_15 u_15 Ka_15 Kz_15 Kf_15 Kc_15 Km_15 Ko_15 Kg_15 HB_15 p150 p151 p152 p153 l15 p160 p161 p162 p163 l16 p170 p171 p172 p173 l17 p180 p181 p182 p183 l18 p190 p191 p192 p193 l19; obtain ⟨p200, p201, p202, p203, l20⟩ := Kz_16.out.use4; obtain ⟨p210, p211, p212, p213, l21⟩ := Kc_16.out.use4; obtain ⟨p220, p221, p222, p223, l22⟩ := Kg_16.out.use4; obtain ⟨p230, p231, p232, p233, l23⟩ := Kf_16.out.use4; obtain ⟨p240, p241, p242, p243, l24⟩ := Ka_16.out.use4)
            | (go_at_call 18; have _t := tok2; clear _t tok2; ((with_reducible refine Calls.mono (rat_same (by first | exact u_16.out | exact u_16.out.drew_ | exact u_16.out.alloc_ _ | exact (u_16.out.alloc_ _).drew_) (by first | exact v_16.out | exact v_16.out.drew_ | exact v_16.out.alloc_ _ | exact (v_16.out.alloc_ _).drew_) BG.out (by omega)) ?_)); rintro e w17 ⟨rfl, hb⟩; have hB := (show Below w16.heap.size w16 w17 from by first | exact hb | exact bundrew hb | exact bun hb | exact bundrew (bun hb) | exact bun (bundrew hb)); have x_17 := Lib.hid (x_16.out.below hB); have z_17 := Lib.hid (z_16.out.below hB); have f_17 := Lib.hid (f_16.out.below hB); have c_17 := Lib.hid (c_16.out.below hB); have o_17 := Lib.hid (o_16.out.below hB); have g_17 := Lib.hid (g_16.out.below hB); have Ka_17 := Lib.hid (Ka_16.out.below hB); have Kz_17 := Lib.hid (Kz_16.out.below hB); have Kf_17 := Lib.hid (Kf_16.out.below hB); have Kc_17 := Lib.hid (Kc_16.out.below hB); have Km_17 := Lib.hid (Km_16.out.below hB); have Ko_17 := Lib.hid (Ko_16.out.below hB); have Kg_17 := Lib.hid (Kg_16.out.below hB); have HB_17 := Lib.hid (below_trans HB_16.out hB); have hs_17 : w.heap.size ≤ w17.heap.size := HB_17.out.size; have hz_17 : w16.heap.size + 0 ≤ w17.heap.size := (by have h := hb.size; (try simp at h); omega); clear hB hb x_16 z_16 f_16 c_16 o_16 g_16 u_16 v_16 Ka_16 Kz_16 Kf_16 Kc_16 Km_16 Ko_16 Kg_16 HB_16 p200 p201 p202 p203 l20 p210 p211 p212 p213 l21 p220 p221 p222 p223 l22 p230 p231 p232 p233 l23 p240 p241 p242 p243 l24; obtain ⟨p250, p251, p252, p253, l25⟩ := Kz_17.out.use4; obtain ⟨p260, p261, p262, p263, l26⟩ := Kc_17.out.use4; obtain ⟨p270, p271, p272, p273, l27⟩ := Kg_17.out.use4; obtain ⟨p280, p281, p282, p283, l28⟩ := Kf_17.out.use4; obtain ⟨p290, p291, p292, p293, l29⟩ := Ka_17.out.use4)
            | (go_at_call 21; have _t := tok3; clear _t tok3; ((with_reducible refine Calls.mono (qcmp_is HE1.out (irqB BP.out (by first | exact f_17.out | exact f_17.out.drew_ | exact f_17.out.alloc_ _ | exact (f_17.out.alloc_ _).drew_)) (lq HQ.out (by first | exact x_17.out | exact x_17.out.drew_ | exact x_17.out.alloc_ _ | exact (x_17.out.alloc_ _).drew_)) (by omega) (by omega) (by omega) (by omega)) ?_)); rintro e w18 ⟨rfl, hb⟩; have hB := (show Below w17.heap.size w17 w18 from by first | exact hb | exact bundrew hb | exact bun hb | exact bundrew (bun hb) | exact bun (bundrew hb)); have x_18 := Lib.hid (x_17.out.below hB); have z_18 := Lib.hid (z_17.out.below hB); have f_18 := Lib.hid (f_17.out.below hB); have c_18 := Lib.hid (c_17.out.below hB); have o_18 := Lib.hid (o_17.out.below hB); have g_18 := Lib.hid (g_17.out.below hB); have Ka_18 := Lib.hid (Ka_17.out.below hB); have Kz_18 := Lib.hid (Kz_17.out.below hB); have Kf_18 := Lib.hid (Kf_17.out.below hB); have Kc_18 := Lib.hid (Kc_17.out.below hB); have Km_18 := Lib.hid (Km_17.out.below hB); have Ko_18 := Lib.hid (Ko_17.out.below hB); have Kg_18 := Lib.hid (Kg_17.out.below hB); have HB_18 := Lib.hid (below_trans HB_17.out hB); have hs_18 : w.heap.size ≤ w18.heap.size := HB_18.out.size; have hz_18 : w17.heap.size + 0 ≤ w18.heap.size := (by have h := hb.size; (try simp at h); omega); clear hB hb x_17 z_17 f_17 c_17 o_17 g_17 Ka_17 Kz_17 Kf_17 Kc_17 Km_17 Ko_17 Kg_17 HB_17 p250 p251 p252 p253 l25 p260 p261 p262 p263 l26 p270 p271 p272 p273 l27 p280 p281 p282 p283 l28 p290 p291 p292 p293 l29; obtain ⟨p300, p301, p302, p303, l30⟩ := Kz_18.out.use4; obtain ⟨p310, p311, p312, p313, l31⟩ := Kc_18.out.use4; obtain ⟨p320, p321, p322, p323, l32⟩ := Kg_18.out.use4; obtain ⟨p330, p331, p332, p333, l33⟩ := Kf_18.out.use4; obtain ⟨p340, p341, p342, p343, l34⟩ := Ka_18.out.use4)
            | (go_at_call 21; have _t := tok4; clear _t tok4; ((with_reducible refine Calls.mono (qcmp_is HE2.out (irqB BC.out (by first | exact c_18.out | exact c_18.out.drew_ | exact c_18.out.alloc_ _ | exact (c_18.out.alloc_ _).drew_)) (lq HQ.out (by first | exact x_18.out | exact x_18.out.drew_ | exact x_18.out.alloc_ _ | exact (x_18.out.alloc_ _).drew_)) (by omega) (by omega) (by omega) (by omega)) ?_)); rintro e w19 ⟨rfl, hb⟩; have hB := (show Below w18.heap.size w18 w19 from by first | exact hb | exact bundrew hb | exact bun hb | exact bundrew (bun hb) | exact bun (bundrew hb)); have x_19 := Lib.hid (x_18.out.below hB); have z_19 := Lib.hid (z_18.out.below hB); have f_19 := Lib.hid (f_18.out.below hB); have c_19 := Lib.hid (c_18.out.below hB); have o_19 := Lib.hid (o_18.out.below hB); have g_19 := Lib.hid (g_18.out.below hB); have Ka_19 := Lib.hid (Ka_18.out.below hB); have Kz_19 := Lib.hid (Kz_18.out.below hB); have Kf_19 := Lib.hid (Kf_18.out.below hB); have Kc_19 := Lib.hid (Kc_18.out.below hB); have Km_19 := Lib.hid (Km_18.out.below hB); have Ko_19 := Lib.hid (Ko_18.out.below hB); have Kg_19 := Lib.hid (Kg_18.out.below hB); have HB_19 := Lib.hid (below_trans HB_18.out hB); have hs_19 : w.heap.size ≤ w19.heap.size := HB_19.out.size; have hz_19 : w18.heap.size + 0 ≤ w19.heap.size := (by have h := hb.size; (try simp at h); omega); clear hB hb x_18 z_18 f_18 c_18 o_18 g_18 Ka_18 Kz_18 Kf_18 Kc_18 Km_18 Ko_18 Kg_18 HB_18 p300 p301 p302 p303 l30 p310 p311 p312 p313 l31 p320 p321 p322 p323 l32 p330 p331 p332 p333 l33 p340 p341 p342 p343 l34; obtain ⟨p350, p351, p352, p353, l35⟩ := Kz_19.out.use4; obtain ⟨p360, p361, p362, p363, l36⟩ := Kc_19.out.use4; obtain ⟨p370, p371, p372, p373, l37⟩ := Kg_19.out.use4; obtain ⟨p380, p381, p382, p383, l38⟩ := Kf_19.out.use4; obtain ⟨p390, p391, p392, p393, l39⟩ := Ka_19.out.use4))
        go_wp2
        obtain ⟨p400, p401, p402, p403, l40⟩ := Kc_19.out.use4
        obtain ⟨p410, p411, p412, p413, l41⟩ := Kf_19.out.use4
        obtain ⟨p420, p421, p422, p423, l42⟩ := Ko_19.out.use4
        have tok0 : True := trivial
        have tok1 : True := trivial
        refine wp_region_held_drew (S := (fun w' => w'.cell? ⟨gc, 0, none⟩ = some (.bool b7) ∧ w'.cell? ⟨gc, 1, none⟩ = some (.slice A7 n7 c7) ∧ w'.cell? ⟨gc, 2, none⟩ = some (.bool d3) ∧ w'.cell? ⟨gc, 3, none⟩ = some (.slice B3 m3 k3) ∧ w'.cell? ⟨gf, 0, none⟩ = some (.bool b5) ∧ w'.cell? ⟨gf, 1, none⟩ = some (.slice A5 n5 c5) ∧ w'.cell? ⟨gf, 2, none⟩ = some (.bool d3) ∧ w'.cell? ⟨gf, 3, none⟩ = some (.slice B3 m3 k3) ∧ w'.cell? ⟨w9.heap.size, 0, none⟩ = some (.bool b9) ∧ w'.cell? ⟨w9.heap.size, 1, none⟩ = some (.slice A9 n9 c9) ∧ w'.cell? ⟨w9.heap.size, 2, none⟩ = some (.bool d9) ∧ w'.cell? ⟨w9.heap.size, 3, none⟩ = some (.slice B9 m9 k9))) (by kernel_rfl) ?_ (fun hHeld => ?_)
        · (first | (refine ⟨?_, ?_, ?_, ?_, ?_, ?_, ?_, ?_, ?_, ?_, ?_, ?_⟩ <;> (first | with_reducible assumption | ((with_reducible refine Eq.trans (cell_drew _ _) ?_); with_reducible assumption) | ((rw [cell_far4 _ _ _ _ _ _ _ _ (by omega)]); with_reducible assumption) | ((repeat rw [cell_far2 _ _ _ _ _ _ (by omega)]); with_reducible assumption) | go_keep)) | trivial | go_keep)
        refine wpAnyH_take (i := 0) (v := ?_) rfl (by kernel_rfl) (by kernel_rfl) (by kernel_rfl) (fun _ _ _ h => h) (Or.inl ⟨by kernel_rfl, ?_⟩) (by assumption) ?_
        rotate_left
        · intro w hSw; (try dsimp only at hSw); go_simp <;> (try with_reducible rfl)
        (try simp only [Act.put, List.setIfInBounds_toArray, List.set_cons_zero, List.set_cons_succ, List.getElem_toArray, List.getElem_cons_zero])
        refine wpAnyH_take (i := 1) (v := ?_) rfl (by kernel_rfl) (by kernel_rfl) (by kernel_rfl) (fun _ _ _ h => h) (Or.inl ⟨by kernel_rfl, ?_⟩) (by assumption) ?_
        rotate_left
        · intro w hSw; (try dsimp only at hSw); go_simp <;> (try with_reducible rfl)
        (try simp only [Act.put, List.setIfInBounds_toArray, List.set_cons_zero, List.set_cons_succ, List.getElem_toArray, List.getElem_cons_succ, List.getElem_cons_zero])
        refine wpAnyH_take (i := 2) (v := undef) rfl (by kernel_rfl) (by kernel_rfl) (by kernel_rfl) (fun _ _ _ h => h) (Or.inr ⟨by kernel_rfl, rfl⟩) (by assumption) ?_
        (try simp only [Act.put, List.setIfInBounds_toArray, List.set_cons_zero, List.set_cons_succ, List.getElem_toArray, List.getElem_cons_succ, List.getElem_cons_zero])
        refine wpAnyH_take (i := 3) (v := undef) rfl (by kernel_rfl) (by kernel_rfl) (by kernel_rfl) (fun _ _ _ h => h) (Or.inr ⟨by kernel_rfl, rfl⟩) (by assumption) ?_
        (try simp only [Act.put, List.setIfInBounds_toArray, List.set_cons_zero, List.set_cons_succ, List.getElem_toArray, List.getElem_cons_succ, List.getElem_cons_zero])
        refine wpAnyH_take (i := 4) (v := undef) rfl (by kernel_rfl) (by kernel_rfl) (by kernel_rfl) (fun _ _ _ h => h) (Or.inr ⟨by kernel_rfl, rfl⟩) (by assumption) ?_
        (try simp only [Act.put, List.setIfInBounds_toArray, List.set_cons_zero, List.set_cons_succ, List.getElem_toArray, List.getElem_cons_succ, List.getElem_cons_zero])
        refine wpAnyH_take (i := 5) (v := undef) rfl (by kernel_rfl) (by kernel_rfl) (by kernel_rfl) (fun _ _ _ h => h) (Or.inr ⟨by kernel_rfl, rfl⟩) (by assumption) ?_
        (try simp only [Act.put, List.setIfInBounds_toArray, List.set_cons_zero, List.set_cons_succ, List.getElem_toArray, List.getElem_cons_succ, List.getElem_cons_zero])
        refine wpAnyH_take (i := 6) (v := undef) rfl (by kernel_rfl) (by kernel_rfl) (by kernel_rfl) (fun _ _ _ h => h) (Or.inr ⟨by kernel_rfl, rfl⟩) (by assumption) ?_
        (try simp only [Act.put, List.setIfInBounds_toArray, List.set_cons_zero, List.set_cons_succ, List.getElem_toArray, List.getElem_cons_succ, List.getElem_cons_zero])
        refine wpAnyH_take (i := 7) (v := ?_) rfl (by kernel_rfl) (by kernel_rfl) (by kernel_rfl) (fun _ _ _ h => h) (Or.inl ⟨by kernel_rfl, ?_⟩) (by assumption) ?_
        rotate_left
        · intro w hSw; (try dsimp only at hSw); go_simp <;> (try with_reducible rfl)
        (try simp only [Act.put, List.setIfInBounds_toArray, List.set_cons_zero, List.set_cons_succ, List.getElem_toArray, List.getElem_cons_succ, List.getElem_cons_zero])
        refine wpAnyH_take (i := 8) (v := ?_) rfl (by kernel_rfl) (by kernel_rfl) (by kernel_rfl) (fun _ _ _ h => h) (Or.inl ⟨by kernel_rfl, ?_⟩) (by assumption) ?_
        rotate_left
        · intro w hSw; (try dsimp only at hSw); go_simp <;> (try with_reducible rfl)
        (try simp only [Act.put, List.setIfInBounds_toArray, List.set_cons_zero, List.set_cons_succ, List.getElem_toArray, List.getElem_cons_succ, List.getElem_cons_zero])
        refine wpAnyH_take (i := 9) (v := ?_) rfl (by kernel_rfl) (by kernel_rfl) (by kernel_rfl) (fun _ _ _ h => h) (Or.inl ⟨by kernel_rfl, ?_⟩) (by assumption) ?_
        rotate_left
        · intro w hSw; (try dsimp only at hSw); go_simp <;> (try with_reducible rfl)
        (try simp only [Act.put, List.setIfInBounds_toArray, List.set_cons_zero, List.set_cons_succ, List.getElem_toArray, List.getElem_cons_succ, List.getElem_cons_zero])
        refine wpAnyH_take (i := 10) (v := ?_) rfl (by kernel_rfl) (by kernel_rfl) (by kernel_rfl) (fun _ _ _ h => h) (Or.inl ⟨by kernel_rfl, ?_⟩) (by assumption) ?_
        rotate_left
        · intro w hSw; (try dsimp only at hSw); go_simp <;> (try with_reducible rfl)
        (try simp only [Act.put, List.setIfInBounds_toArray, List.set_cons_zero, List.set_cons_succ, List.getElem_toArray, List.getElem_cons_succ, List.getElem_cons_zero])
        refine wpAnyH_take (i := 11) (v := ?_) rfl (by kernel_rfl) (by kernel_rfl) (by kernel_rfl) (fun _ _ _ h => h) (Or.inl ⟨by kernel_rfl, ?_⟩) (by assumption) ?_
        rotate_left
        · intro w hSw; (try dsimp only at hSw); go_simp <;> (try with_reducible rfl)
        (try simp only [Act.put, List.setIfInBounds_toArray, List.set_cons_zero, List.set_cons_succ, List.getElem_toArray, List.getElem_cons_succ, List.getElem_cons_zero])
        refine wpAnyH_take (i := 12) (v := ?_) rfl (by kernel_rfl) (by kernel_rfl) (by kernel_rfl) (fun _ _ _ h => h) (Or.inl ⟨by kernel_rfl, ?_⟩) (by assumption) ?_
        rotate_left
        · intro w hSw; (try dsimp only at hSw); go_simp <;> (try with_reducible rfl)
        (try simp only [Act.put, List.setIfInBounds_toArray, List.set_cons_zero, List.set_cons_succ, List.getElem_toArray, List.getElem_cons_succ, List.getElem_cons_zero])
        refine wpAnyH_take (i := 13) (v := ?_) rfl (by kernel_rfl) (by kernel_rfl) (by kernel_rfl) (fun _ _ _ h => h) (Or.inl ⟨by kernel_rfl, ?_⟩) (by assumption) ?_
        rotate_left
        · intro w hSw; (try dsimp only at hSw); go_simp <;> (try with_reducible rfl)
        (try simp only [Act.put, List.setIfInBounds_toArray, List.set_cons_zero, List.set_cons_succ, List.getElem_toArray, List.getElem_cons_succ, List.getElem_cons_zero])
        refine wpAnyH_take (i := 15) (v := ?_) rfl (by kernel_rfl) (by kernel_rfl) (by kernel_rfl) (fun _ _ _ h => h) (Or.inl ⟨by kernel_rfl, ?_⟩) (by assumption) ?_
        rotate_left
        · intro w hSw; (try dsimp only at hSw); go_simp <;> (try with_reducible rfl)
        (try simp only [Act.put, List.setIfInBounds_toArray, List.set_cons_zero, List.set_cons_succ, List.getElem_toArray, List.getElem_cons_succ, List.getElem_cons_zero])
        refine wpAnyH_ready (rs := [14]) (by kernel_rfl) (by simp) ?_
        refine AllReadyH.cons rfl (fun K hK => ?_) AllReadyH.nil
        go_simp
        (go_at_call 25; have _t := tok0; clear _t tok0; ((with_reducible refine Calls.mono (qsubB_is HCF.out (irqB BC.out (by first | exact c_19.out | exact c_19.out.drew_ | exact c_19.out.alloc_ _ | exact (c_19.out.alloc_ _).drew_)) (irqB BP.out (by first | exact f_19.out | exact f_19.out.drew_ | exact f_19.out.alloc_ _ | exact (f_19.out.alloc_ _).drew_)) (by omega) (by omega) (by omega) (by omega)) ?_)); rintro e w20 ⟨v, rfl, h, hb⟩; have hk := h; obtain ⟨b20, A20, n20, c20, d20, B20, m20, k20, rfl, -, -, -, -, -⟩ := h.form; clear h; have hB := (show Below w19.heap.size w19 w20 from by first | exact hb | exact bundrew hb | exact bun hb | exact bundrew (bun hb) | exact bun (bundrew hb)); have x_20 := Lib.hid (x_19.out.below hB); have z_20 := Lib.hid (z_19.out.below hB); have f_20 := Lib.hid (f_19.out.below hB); have c_20 := Lib.hid (c_19.out.below hB); have o_20 := Lib.hid (o_19.out.below hB); have g_20 := Lib.hid (g_19.out.below hB); have Ka_20 := Lib.hid (Ka_19.out.below hB); have Kz_20 := Lib.hid (Kz_19.out.below hB); have Kf_20 := Lib.hid (Kf_19.out.below hB); have Kc_20 := Lib.hid (Kc_19.out.below hB); have Km_20 := Lib.hid (Km_19.out.below hB); have Ko_20 := Lib.hid (Ko_19.out.below hB); have Kg_20 := Lib.hid (Kg_19.out.below hB); have u_20 := Lib.hid (hk); have HB_20 := Lib.hid (below_trans HB_19.out hB); have hs_20 : w.heap.size ≤ w20.heap.size := HB_20.out.size; have hz_20 : w19.heap.size + 0 ≤ w20.heap.size := (by have h := hb.size; (try simp at h); omega); clear hB hb x_19 z_19 f_19 c_19 o_19 g_19 Ka_19 Kz_19 Kf_19 Kc_19 Km_19 Ko_19 Kg_19 HB_19 p350 p351 p352 p353 l35 p360 p361 p362 p363 l36 p370 p371 p372 p373 l37 p380 p381 p382 p383 l38 p390 p391 p392 p393 l39 p400 p401 p402 p403 l40 p410 p411 p412 p413 l41 p420 p421 p422 p423 l42; obtain ⟨p430, p431, p432, p433, l43⟩ := Kc_20.out.use4; obtain ⟨p440, p441, p442, p443, l44⟩ := Kf_20.out.use4; obtain ⟨p450, p451, p452, p453, l45⟩ := Ko_20.out.use4)
        refine hK.out _ _ ?_ (fun hHeld => ?_)
        · (try dsimp only); (first | (refine ⟨?_, ?_, ?_, ?_, ?_, ?_, ?_, ?_, ?_, ?_, ?_, ?_⟩ <;> (first | with_reducible assumption | ((with_reducible refine Eq.trans (cell_drew _ _) ?_); with_reducible assumption) | ((rw [cell_far4 _ _ _ _ _ _ _ _ (by omega)]); with_reducible assumption) | ((repeat rw [cell_far2 _ _ _ _ _ _ (by omega)]); with_reducible assumption) | go_keep)) | trivial | go_keep)
        clear hK K
        (try simp only [Act.put, List.setIfInBounds_toArray, List.set_cons_zero, List.set_cons_succ, List.getElem_toArray, List.getElem_cons_succ, List.getElem_cons_zero])
        refine wpAnyH_ready (rs := [16]) (by kernel_rfl) (by simp) ?_
        refine AllReadyH.cons rfl (fun K hK => ?_) AllReadyH.nil
        go_simp
        (go_at_call 18; have _t := tok1; clear _t tok1; ((with_reducible refine Calls.mono (rat_same (by first | exact u_20.out | exact u_20.out.drew_ | exact u_20.out.alloc_ _ | exact (u_20.out.alloc_ _).drew_) (by first | exact o_20.out | exact o_20.out.drew_ | exact o_20.out.alloc_ _ | exact (o_20.out.alloc_ _).drew_) BO.out (by omega)) ?_)); rintro e w21 ⟨rfl, hb⟩; have hB := (show Below w20.heap.size w20 w21 from by first | exact hb | exact bundrew hb | exact bun hb | exact bundrew (bun hb) | exact bun (bundrew hb)); have x_21 := Lib.hid (x_20.out.below hB); have z_21 := Lib.hid (z_20.out.below hB); have f_21 := Lib.hid (f_20.out.below hB); have c_21 := Lib.hid (c_20.out.below hB); have o_21 := Lib.hid (o_20.out.below hB); have g_21 := Lib.hid (g_20.out.below hB); have u_21 := Lib.hid (u_20.out.below hB); have Ka_21 := Lib.hid (Ka_20.out.below hB); have Kz_21 := Lib.hid (Kz_20.out.below hB); have Kf_21 := Lib.hid (Kf_20.out.below hB); have Kc_21 := Lib.hid (Kc_20.out.below hB); have Km_21 := Lib.hid (Km_20.out.below hB); have Ko_21 := Lib.hid (Ko_20.out.below hB); have Kg_21 := Lib.hid (Kg_20.out.below hB); have HB_21 := Lib.hid (below_trans HB_20.out hB); have hs_21 : w.heap.size ≤ w21.heap.size := HB_21.out.size; have hz_21 : w20.heap.size + 0 ≤ w21.heap.size := (by have h := hb.size; (try simp at h); omega); clear hB hb x_20 z_20 f_20 c_20 o_20 g_20 u_20 Ka_20 Kz_20 Kf_20 Kc_20 Km_20 Ko_20 Kg_20 HB_20 p430 p431 p432 p433 l43 p440 p441 p442 p443 l44 p450 p451 p452 p453 l45; obtain ⟨p460, p461, p462, p463, l46⟩ := Kc_21.out.use4; obtain ⟨p470, p471, p472, p473, l47⟩ := Kf_21.out.use4; obtain ⟨p480, p481, p482, p483, l48⟩ := Ko_21.out.use4)
        refine hK.out _ _ ?_ (fun hHeld => ?_)
        · (try dsimp only); (first | (refine ⟨?_, ?_, ?_, ?_, ?_, ?_, ?_, ?_, ?_, ?_, ?_, ?_⟩ <;> (first | with_reducible assumption | ((with_reducible refine Eq.trans (cell_drew _ _) ?_); with_reducible assumption) | ((rw [cell_far4 _ _ _ _ _ _ _ _ (by omega)]); with_reducible assumption) | ((repeat rw [cell_far2 _ _ _ _ _ _ (by omega)]); with_reducible assumption) | go_keep)) | trivial | go_keep)
        clear hK K
        (try simp only [Act.put, List.setIfInBounds_toArray, List.set_cons_zero, List.set_cons_succ, List.getElem_toArray, List.getElem_cons_succ, List.getElem_cons_zero])
        refine wpAnyH_take (i := 17) (v := ?_) rfl (by kernel_rfl) (by kernel_rfl) (by kernel_rfl) (fun _ _ _ h => h) (Or.inl ⟨by kernel_rfl, ?_⟩) (by assumption) ?_
        rotate_left
        · intro w hSw; (try dsimp only at hSw); go_simp <;> (try with_reducible rfl)
        (try simp only [Act.put, List.setIfInBounds_toArray, List.set_cons_zero, List.set_cons_succ, List.getElem_toArray, List.getElem_cons_succ, List.getElem_cons_zero])
        refine wpAnyH_take (i := 18) (v := ?_) rfl (by kernel_rfl) (by kernel_rfl) (by kernel_rfl) (fun _ _ _ h => h) (Or.inl ⟨by kernel_rfl, ?_⟩) (by assumption) ?_
        rotate_left
        · intro w hSw; (try dsimp only at hSw); go_simp <;> (try with_reducible rfl)
        (try simp only [Act.put, List.setIfInBounds_toArray, List.set_cons_zero, List.set_cons_succ, List.getElem_toArray, List.getElem_cons_succ, List.getElem_cons_zero])
        refine wpAnyH_take (i := 19) (v := ?_) rfl (by kernel_rfl) (by kernel_rfl) (by kernel_rfl) (fun _ _ _ h => h) (Or.inl ⟨by kernel_rfl, ?_⟩) (by assumption) ?_
        rotate_left
        · intro w hSw; (try dsimp only at hSw); go_simp <;> (try with_reducible rfl)
        (try simp only [Act.put, List.setIfInBounds_toArray, List.set_cons_zero, List.set_cons_succ, List.getElem_toArray, List.getElem_cons_succ, List.getElem_cons_zero])
        refine wpAnyH_done (by kernel_rfl) ?_ _
        go_wp2
        go_ret
        exact ⟨by simp, HB_21.out⟩

theorem whole_any (b00 : Bool) (a00 : Option Addr) (n00 c00 : Nat) (e00 : Bool) (g00 : Option Addr) (m00 k00 : Nat) (w : World) (w0 : n00 ≤ 4 → m00 ≤ 4 → ∃ q, LimQ 4 w ((.agg #[.bool b00, .slice a00 n00 c00, .bool e00, .slice g00 m00 k00])) q) :
    Calls Tryz.prog 9 #[(.agg #[.bool b00, .slice a00 n00 c00, .bool e00, .slice g00 m00 k00])] w fun e w' => e = .returned (.bool true) ∧ Below w.heap.size w w' := by
  cases h0 : (decide (n00 ≤ 4) && decide (m00 ≤ 4))
  · exact whole_no b00 a00 n00 c00 e00 g00 m00 k00 w h0
  · have e0 := h0
    rw [Bool.and_eq_true, decide_eq_true_eq, decide_eq_true_eq] at e0
    obtain ⟨q, X, Y, hx, -⟩ := w0 e0.1 e0.2
    rcases frac_cmp01 (ratOf X Y) with hs | hs
    · exact whole_yes0 b00 a00 n00 c00 e00 g00 m00 k00 w X Y hx h0 hs
    · exact whole_yes1 b00 a00 n00 c00 e00 g00 m00 k00 w X Y hx h0 hs
end Go.Proofs.YtglcififcldchaaGreatDoor
