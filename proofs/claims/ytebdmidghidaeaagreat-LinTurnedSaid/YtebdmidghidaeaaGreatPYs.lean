/- The laws' first question: is the program awake? -/
import Derived.Test.YtebdmidghidaeaaGreatPYr
namespace Go.Proofs.YtebdmidghidaeaaGreat
open Go.RowKit
attribute [local go_sem ↓] Go.wp_at_zero Go.wp_at_succ
set_option linter.unusedVariables false
set_option linter.unusedSimpArgs false

/-- Two numbers. -/
def twoR (a b : Rat) : Nat → Rat := fun i => if i = 0 then a else b
theorem row2 {p : Bool} {k : Nat} {w : World} {g : Nat} (hg : g = w.heap.size) {b1 : Bool} {A1 : Option Addr} {n1 c1 : Nat} {d1 : Bool} {B1 : Option Addr} {m1 k1 : Nat} {b2 : Bool} {A2 : Option Addr} {n2 c2 : Nat} {d2 : Bool} {B2 : Option Addr} {m2 k2 : Nat} {q r : Rat}
    (h1 : EQ p k w (.agg #[.bool b1, .slice A1 n1 c1, .bool d1, .slice B1 m1 k1]) q) (h2 : EQ p k w (.agg #[.bool b2, .slice A2 n2 c2, .bool d2, .slice B2 m2 k2]) r) :
    RowT p k (w.alloc (.cells #[.bool b1, .slice A1 n1 c1, .bool d1, .slice B1 m1 k1, .bool b2, .slice A2 n2 c2, .bool d2, .slice B2 m2 k2] 27)) (.slice (some ⟨g, 0, none⟩) 2 2) 2 (twoR q r) := by
  have hk := Blk.new w g hg 27 #[.bool b1, .slice A1 n1 c1, .bool d1, .slice B1 m1 k1, .bool b2, .slice A2 n2 c2, .bool d2, .slice B2 m2 k2]
  refine ⟨_, 2, fun i => if i = 0 then ⟨b1, A1, n1, c1, d1, B1, m1, k1⟩ else ⟨b2, A2, n2, c2, d2, B2, m2, k2⟩, rfl, ⟨Nat.le_refl _, fun e => by cases e⟩, by omega, fun i hi => ⟨_, rfl, ?_⟩, fun i hi => ?_, fun a e => by injection e with e; subst e; exact ⟨_, _, hk⟩⟩
  · have : i = 0 ∨ i = 1 := by omega
    rcases this with rfl | rfl
    · exact ⟨hk.lt, hk.cell 0, hk.cell 1, hk.cell 2, hk.cell 3⟩
    · exact ⟨hk.lt, hk.cell 4, hk.cell 5, hk.cell 6, hk.cell 7⟩
  · have : i = 0 ∨ i = 1 := by omega
    rcases this with rfl | rfl
    · exact h1.alloc_ _
    · exact h2.alloc_ _
/-- Two rows. -/
def twoT (F G : Nat → Rat) : Nat → Nat → Rat := fun i => if i = 0 then F else G
theorem tab2 {p : Bool} {k : Nat} {w : World} {g : Nat} (hg : g = w.heap.size) {v1 v2 : Value} {F G : Nat → Rat} (h1 : RowQ p k w v1 2 F) (h2 : RowQ p k w v2 2 G) :
    TabQ p k (w.alloc (.cells #[v1, v2] 22)) (.slice (some ⟨g, 0, none⟩) 2 2) 2 (fun _ => 2) (twoT F G) := by
  have hk := Blk.new w g hg 22 #[v1, v2]
  refine ⟨_, 2, rfl, ⟨Nat.le_refl _, fun e => by cases e⟩, by omega, fun i hi => ?_⟩
  have : i = 0 ∨ i = 1 := by omega
  rcases this with rfl | rfl
  · exact ⟨_, _, rfl, hk.lt, hk.cell 0, h1.alloc_ _⟩
  · exact ⟨_, _, rfl, hk.lt, hk.cell 1, h2.alloc_ _⟩
theorem lawOf_is {N : Int} {q : Rat} (hq : Rat.divInt N 1 = q) (w : World) (h1 : -9223372036854775808 ≤ N) (h2 : N ≤ 9223372036854775807) : Calls Tryz.prog 23 #[.int .i64 N] w fun e w' => RatPost w w' e q := hq ▸ lawOf w h1 h2
theorem law_d1 : Rat.divInt 1 1 = 1 := rfl
theorem law_d2 : Rat.divInt 2 1 = 2 := rfl
theorem law_d3 : Rat.divInt 3 1 = 3 := rfl
theorem law_d0 : Rat.divInt 0 1 = 0 := rfl
theorem law_dm1 : Rat.divInt (-1) 1 = -1 := rfl
theorem law_dm2 : Rat.divInt (-2) 1 = -2 := rfl
theorem bq1 : BQ 1 1 := ⟨by decide, by decide⟩
theorem bq2 : BQ 1 2 := ⟨by decide, by decide⟩
theorem bq3 : BQ 1 3 := ⟨by decide, by decide⟩
theorem bq0 : BQ 1 0 := ⟨by decide, by decide⟩
theorem bqm1 : BQ 1 (-1) := ⟨by decide, by decide⟩
theorem bqm2 : BQ 1 (-2) := ⟨by decide, by decide⟩
theorem bqh : BQ 1 (Rat.divInt 1 2) := ⟨by decide, by decide⟩
abbrev awF : Nat → Nat → Rat := twoT (twoR 2 1) (twoR 1 1)
theorem aw_uniq : Uniq awF (twoR 3 2) 2 (fun _ => 1) := by
  have h : ∀ x, Sol awF (twoR 3 2) 2 x ↔ (2 * x 0 + 1 * x 1 = 3 ∧ 1 * x 0 + 1 * x 1 = 2) := fun x => by
    constructor
    · intro h
      have h0 : 0 + 2 * x 0 + 1 * x 1 = 3 := h 0 (by omega)
      have h1 : 0 + 1 * x 0 + 1 * x 1 = 2 := h 1 (by omega)
      rw [Rat.zero_add] at h0 h1
      exact ⟨h0, h1⟩
    · rintro ⟨h0, h1⟩ j hj
      have : j = 0 ∨ j = 1 := by omega
      rcases this with rfl | rfl
      · show 0 + 2 * x 0 + 1 * x 1 = 3; rw [Rat.zero_add]; exact h0
      · show 0 + 1 * x 0 + 1 * x 1 = 2; rw [Rat.zero_add]; exact h1
  refine ⟨(h _).2 ⟨by show (2 : Rat) * 1 + 1 * 1 = 3; grind, by show (1 : Rat) * 1 + 1 * 1 = 2; grind⟩, fun x hx j hj => ?_⟩
  obtain ⟨h0, h1⟩ := (h x).1 hx
  have : j = 0 ∨ j = 1 := by omega
  rcases this with rfl | rfl <;> grind
theorem aw_piv : ∀ i, i < 2 → ∀ j, j < 2 → pivF awF 0 0 i j = twoT (twoR 1 (Rat.divInt 1 2)) (twoR 0 (Rat.divInt 1 2)) i j := fun i hi j hj => by
  have hi' : i = 0 ∨ i = 1 := by omega
  have hj' : j = 0 ∨ j = 1 := by omega
  have e : (1 : Rat) / 2 = Rat.divInt 1 2 := by rw [Rat.divInt_eq_div]; rfl
  rcases hi' with rfl | rfl
  · rw [pivF_at]
    rcases hj' with rfl | rfl
    · show (2 : Rat) / 2 = 1; grind
    · show (1 : Rat) / 2 = Rat.divInt 1 2; exact e
  · rw [pivF_ne _ (by omega)]
    rcases hj' with rfl | rfl
    · show (1 : Rat) + 2 / 2 * (0 - 1) = 0; grind
    · show (1 : Rat) + 1 / 2 * (0 - 1) = Rat.divInt 1 2; rw [← e]; grind
section
variable {p : Bool} {k m : Nat} {w : World} {v : Value} {Ln : Nat → Nat} {F : Nat → Nat → Rat}
theorem TabQ.alloc_ (h : TabQ p k w v m Ln F) (o : Obj) : TabQ p k (w.alloc o) v m Ln F := h.below (below_new w o)
end
theorem aw_dot {w : World} {va vb : Value} (ha : RowQ true 1 w va 2 (twoR 2 1)) (hb : RowQ true 1 w vb 2 (twoR 1 1)) : Calls Tryz.prog 12 #[va, vb] w fun e w' => ∃ v, e = .returned (.tuple #[v, .bool true]) ∧ IsRat w' v 3 ∧ Below w.heap.size w w' := by
  have e : dotF (twoR 2 1) (twoR 1 1) 2 = 3 := by show 0 + 2 * 1 + 1 * 1 = (3 : Rat); grind
  have := ldot (K := 8) ha hb (by omega) (by omega) (by omega) (by omega) (fun i hi => dotF_bq i (fun j hj => ha.bq (by omega) (by omega)) (fun j hj => hb.bq (by omega) (by omega)) (by omega)) (by omega) (by omega)
  rw [e] at this
  exact this
theorem aw_add {w : World} {va vb vz : Value} (ha : RowQ true 1 w va 2 (twoR 2 1)) (hb : RowQ true 1 w vb 2 (twoR 1 1)) (hz : LimQ 1 w vz (-2)) : Calls Tryz.prog 14 #[va, vb, vz] w fun e w' => ∃ v, e = .returned (.tuple #[v, .bool true]) ∧ RowT true 4 w' v 2 (twoR 0 (-1)) ∧ Below w.heap.size w w' := by
  refine (laddTimes (K := 4) ha hb hz (by omega) (by omega) (by omega) (by omega) (by omega) (by omega) (by omega)).mono ?_
  rintro e w' ⟨v, rfl, h, hb⟩
  refine ⟨v, rfl, h.congr fun i hi => ?_, hb⟩
  have : i = 0 ∨ i = 1 := by omega
  rcases this with rfl | rfl
  · show (2 : Rat) + 1 * (-2) = 0; grind
  · show (1 : Rat) + 1 * (-2) = -1; grind
theorem aw_ok : PivOk 2 (fun _ => 2) awF 0 0 := ⟨0, 0, rfl, rfl, by omega, Nat.succ_pos _, fun _ _ => rfl, by decide⟩

set_option maxRecDepth 100000 in
set_option maxHeartbeats 8000000 in
theorem awake10 (w : World) :
    Calls Tryz.prog 10 #[] w fun e w' => e = .returned (.bool true) ∧ Below w.heap.size w w' := by
  go_enter Tryz.func10, Tryz.ntmps10
  go_wp2_with fail
  refine Calls.mono (lawOf_is law_d2 _ (by omega) (by omega)) ?_
  rintro e w1 ⟨v, rfl, h, hb⟩
  obtain ⟨b1, A1, n1, c1, d1, B1, m1, k1, rfl, -, -, -, -, -⟩ := h.form
  have hE := EQ.of (p := true) h bq2
  have hBw := (show Below w.heap.size w w1 from by first | exact hb | exact bundrew hb)
  have p_1 := Lib.hid (hE)
  have HB_1 := Lib.hid (hBw)
  clear hBw hb 
  clear h hE
  go_wp2_with fail
  refine Calls.mono (lawOf_is law_d1 _ (by omega) (by omega)) ?_
  rintro e w2 ⟨v, rfl, h, hb⟩
  obtain ⟨b2, A2, n2, c2, d2, B2, m2, k2, rfl, -, -, -, -, -⟩ := h.form
  have hE := EQ.of (p := true) h bq1
  have hBw := (show Below w1.heap.size w1 w2 from by first | exact hb | exact bundrew hb)
  have p_2 := Lib.hid (p_1.out.below hBw)
  have q_2 := Lib.hid (hE)
  have HB_2 := Lib.hid (below_trans HB_1.out hBw)
  clear hBw hb p_1 HB_1
  clear h hE
  go_wp2_with fail
  generalize hW : w2.alloc (.cells #[.bool b1, .slice A1 n1 c1, .bool d1, .slice B1 m1 k1, .bool b2, .slice A2 n2 c2, .bool d2, .slice B2 m2 k2] 27) = w3
  have hz_3 := Lib.hid (show w3.heap.size = w2.heap.size + 1 from by rw [← hW]; simp)
  have p_3 := Lib.hid (hW ▸ p_2.out.alloc_ _)
  have q_3 := Lib.hid (hW ▸ q_2.out.alloc_ _)
  have ra_3 : Hid (RowT true 1 w3 (.slice (some ⟨w2.heap.size, 0, none⟩) 2 2) 2 (twoR 2 1)) := by rw [← hW]; exact row2 rfl p_2.out q_2.out
  have HB_3 := Lib.hid (show Below w.heap.size w w3 from hW ▸ halloc HB_2.out)
  clear hW p_2 q_2 HB_2
  refine Calls.mono (lawOf_is law_d1 _ (by omega) (by omega)) ?_
  rintro e w4 ⟨v, rfl, h, hb⟩
  obtain ⟨b4, A4, n4, c4, d4, B4, m4, k4, rfl, -, -, -, -, -⟩ := h.form
  have hE := EQ.of (p := true) h bq1
  have hBw := (show Below w3.heap.size w3 w4 from by first | exact hb | exact bundrew hb)
  have p_4 := Lib.hid (p_3.out.below hBw)
  have q_4 := Lib.hid (q_3.out.below hBw)
  have ra_4 := Lib.hid (ra_3.out.below hBw)
  have p2_4 := Lib.hid (hE)
  have HB_4 := Lib.hid (below_trans HB_3.out hBw)
  clear hBw hb p_3 q_3 ra_3 HB_3
  clear h hE
  go_wp2_with fail
  refine Calls.mono (lawOf_is law_d1 _ (by omega) (by omega)) ?_
  rintro e w5 ⟨v, rfl, h, hb⟩
  obtain ⟨b5, A5, n5, c5, d5, B5, m5, k5, rfl, -, -, -, -, -⟩ := h.form
  have hE := EQ.of (p := true) h bq1
  have hBw := (show Below w4.heap.size w4 w5 from by first | exact hb | exact bundrew hb)
  have p_5 := Lib.hid (p_4.out.below hBw)
  have q_5 := Lib.hid (q_4.out.below hBw)
  have ra_5 := Lib.hid (ra_4.out.below hBw)
  have p2_5 := Lib.hid (p2_4.out.below hBw)
  have q2_5 := Lib.hid (hE)
  have HB_5 := Lib.hid (below_trans HB_4.out hBw)
  clear hBw hb p_4 q_4 ra_4 p2_4 HB_4
  clear h hE
  go_wp2_with fail
  generalize hW : w5.alloc (.cells #[.bool b4, .slice A4 n4 c4, .bool d4, .slice B4 m4 k4, .bool b5, .slice A5 n5 c5, .bool d5, .slice B5 m5 k5] 27) = w6
  have hz_6 := Lib.hid (show w6.heap.size = w5.heap.size + 1 from by rw [← hW]; simp)
  have p_6 := Lib.hid (hW ▸ p_5.out.alloc_ _)
  have q_6 := Lib.hid (hW ▸ q_5.out.alloc_ _)
  have ra_6 := Lib.hid (hW ▸ ra_5.out.alloc_ _)
  have p2_6 := Lib.hid (hW ▸ p2_5.out.alloc_ _)
  have q2_6 := Lib.hid (hW ▸ q2_5.out.alloc_ _)
  have rb_6 : Hid (RowT true 1 w6 (.slice (some ⟨w5.heap.size, 0, none⟩) 2 2) 2 (twoR 1 1)) := by rw [← hW]; exact row2 rfl p2_5.out q2_5.out
  have HB_6 := Lib.hid (show Below w.heap.size w w6 from hW ▸ halloc HB_5.out)
  clear hW p_5 q_5 ra_5 p2_5 q2_5 HB_5
  generalize hW : w6.alloc (.cells #[.slice (some ⟨w2.heap.size, 0, none⟩) 2 2, .slice (some ⟨w5.heap.size, 0, none⟩) 2 2] 22) = w7
  have hz_7 := Lib.hid (show w7.heap.size = w6.heap.size + 1 from by rw [← hW]; simp)
  have p_7 := Lib.hid (hW ▸ p_6.out.alloc_ _)
  have q_7 := Lib.hid (hW ▸ q_6.out.alloc_ _)
  have ra_7 := Lib.hid (hW ▸ ra_6.out.alloc_ _)
  have p2_7 := Lib.hid (hW ▸ p2_6.out.alloc_ _)
  have q2_7 := Lib.hid (hW ▸ q2_6.out.alloc_ _)
  have rb_7 := Lib.hid (hW ▸ rb_6.out.alloc_ _)
  have tb_7 : Hid (TabQ true 1 w7 (.slice (some ⟨w5.heap.size + 1, 0, none⟩) 2 2) 2 (fun _ => 2) awF) := by rw [← hW]; exact tab2 (by have := hz_6.out; omega) ra_6.out.rowQ rb_6.out.rowQ
  have kt_7 : Hid (Blk w7 (w5.heap.size + 1) 22 #[.slice (some ⟨w2.heap.size, 0, none⟩) 2 2, .slice (some ⟨w5.heap.size, 0, none⟩) 2 2]) := by rw [← hW]; exact Blk.new _ _ (by have := hz_6.out; omega) _ _
  have HB_7 := Lib.hid (show Below w.heap.size w w7 from hW ▸ halloc HB_6.out)
  clear hW p_6 q_6 ra_6 p2_6 q2_6 rb_6 HB_6
  refine Calls.mono (lawOf_is law_d3 _ (by omega) (by omega)) ?_
  rintro e w8 ⟨v, rfl, h, hb⟩
  obtain ⟨b8, A8, n8, c8, d8, B8, m8, k8, rfl, -, -, -, -, -⟩ := h.form
  have hE := EQ.of (p := true) h bq3
  have hBw := (show Below w7.heap.size w7 w8 from by first | exact hb | exact bundrew hb)
  have p_8 := Lib.hid (p_7.out.below hBw)
  have q_8 := Lib.hid (q_7.out.below hBw)
  have ra_8 := Lib.hid (ra_7.out.below hBw)
  have p2_8 := Lib.hid (p2_7.out.below hBw)
  have q2_8 := Lib.hid (q2_7.out.below hBw)
  have rb_8 := Lib.hid (rb_7.out.below hBw)
  have tb_8 := Lib.hid (tb_7.out.below hBw)
  have kt_8 := Lib.hid (kt_7.out.below hBw)
  have x_8 := Lib.hid (hE)
  have HB_8 := Lib.hid (below_trans HB_7.out hBw)
  clear hBw hb p_7 q_7 ra_7 p2_7 q2_7 rb_7 tb_7 kt_7 HB_7
  clear h hE
  go_wp2_with fail
  refine Calls.mono (lawOf_is law_d2 _ (by omega) (by omega)) ?_
  rintro e w9 ⟨v, rfl, h, hb⟩
  obtain ⟨b9, A9, n9, c9, d9, B9, m9, k9, rfl, -, -, -, -, -⟩ := h.form
  have hE := EQ.of (p := true) h bq2
  have hBw := (show Below w8.heap.size w8 w9 from by first | exact hb | exact bundrew hb)
  have p_9 := Lib.hid (p_8.out.below hBw)
  have q_9 := Lib.hid (q_8.out.below hBw)
  have ra_9 := Lib.hid (ra_8.out.below hBw)
  have p2_9 := Lib.hid (p2_8.out.below hBw)
  have q2_9 := Lib.hid (q2_8.out.below hBw)
  have rb_9 := Lib.hid (rb_8.out.below hBw)
  have tb_9 := Lib.hid (tb_8.out.below hBw)
  have kt_9 := Lib.hid (kt_8.out.below hBw)
  have x_9 := Lib.hid (x_8.out.below hBw)
  have y_9 := Lib.hid (hE)
  have HB_9 := Lib.hid (below_trans HB_8.out hBw)
  clear hBw hb p_8 q_8 ra_8 p2_8 q2_8 rb_8 tb_8 kt_8 x_8 HB_8
  clear h hE
  go_wp2_with fail
  generalize hW : w9.alloc (.cells #[.bool b8, .slice A8 n8 c8, .bool d8, .slice B8 m8 k8, .bool b9, .slice A9 n9 c9, .bool d9, .slice B9 m9 k9] 27) = w10
  have hz_10 := Lib.hid (show w10.heap.size = w9.heap.size + 1 from by rw [← hW]; simp)
  have p_10 := Lib.hid (hW ▸ p_9.out.alloc_ _)
  have q_10 := Lib.hid (hW ▸ q_9.out.alloc_ _)
  have ra_10 := Lib.hid (hW ▸ ra_9.out.alloc_ _)
  have p2_10 := Lib.hid (hW ▸ p2_9.out.alloc_ _)
  have q2_10 := Lib.hid (hW ▸ q2_9.out.alloc_ _)
  have rb_10 := Lib.hid (hW ▸ rb_9.out.alloc_ _)
  have tb_10 := Lib.hid (hW ▸ tb_9.out.alloc_ _)
  have kt_10 := Lib.hid (hW ▸ kt_9.out.alloc_ _)
  have x_10 := Lib.hid (hW ▸ x_9.out.alloc_ _)
  have y_10 := Lib.hid (hW ▸ y_9.out.alloc_ _)
  have rx_10 : Hid (RowT true 1 w10 (.slice (some ⟨w9.heap.size, 0, none⟩) 2 2) 2 (twoR 3 2)) := by rw [← hW]; exact row2 rfl x_9.out y_9.out
  have HB_10 := Lib.hid (show Below w.heap.size w w10 from hW ▸ halloc HB_9.out)
  clear hW p_9 q_9 ra_9 p2_9 q2_9 rb_9 tb_9 kt_9 x_9 y_9 HB_9
  refine Calls.mono (lsolve tb_10.out (by exact rx_10.out.rowQ) (fun _ _ => by omega) (by omega) (by decide)) ?_
  rintro e w11 ⟨hb, hres⟩
  obtain ⟨v, y, rfl, _, _, hu, hy⟩ | ⟨_, hno⟩ := hres
  rotate_left
  · exact absurd ⟨rfl, fun _ _ => rfl, _, aw_uniq⟩ hno
  have hs := hy.congr (aw_uniq.eq hu · · |>.symm)
  obtain ⟨SA, SC, rfl, _, _⟩ := hs.rowQ.len
  have hBw := (show Below w10.heap.size w10 w11 from by first | exact hb | exact bundrew hb)
  have p_11 := Lib.hid (p_10.out.below hBw)
  have q_11 := Lib.hid (q_10.out.below hBw)
  have ra_11 := Lib.hid (ra_10.out.below hBw)
  have p2_11 := Lib.hid (p2_10.out.below hBw)
  have q2_11 := Lib.hid (q2_10.out.below hBw)
  have rb_11 := Lib.hid (rb_10.out.below hBw)
  have tb_11 := Lib.hid (tb_10.out.below hBw)
  have kt_11 := Lib.hid (kt_10.out.below hBw)
  have x_11 := Lib.hid (x_10.out.below hBw)
  have y_11 := Lib.hid (y_10.out.below hBw)
  have rx_11 := Lib.hid (rx_10.out.below hBw)
  have sol_11 := Lib.hid (hs)
  have HB_11 := Lib.hid (below_trans HB_10.out hBw)
  clear hBw hb p_10 q_10 ra_10 p2_10 q2_10 rb_10 tb_10 kt_10 x_10 y_10 rx_10 HB_10
  clear hy hu hs
  go_wp2_with fail
  refine Calls.mono (lpivot (K := 5) tb_11.out (by omega) (by omega) (by omega)) ?_
  rintro e w12 ⟨hb, hres⟩
  obtain ⟨hno, _⟩ | ⟨rn, cn, v, e1, e2, _, _, _, _, rfl, hp⟩ := hres
  · exact absurd aw_ok hno
  obtain rfl : rn = 0 := by omega
  obtain rfl : cn = 0 := by omega
  have hpp := hp.congr (L' := fun _ => 2) (fun _ _ => rfl) aw_piv
  obtain ⟨PA, PC, rfl, _, _⟩ := hpp.len
  have hBw := (show Below w11.heap.size w11 w12 from by first | exact hb | exact bundrew hb)
  have ra_12 := Lib.hid (ra_11.out.below hBw)
  have rb_12 := Lib.hid (rb_11.out.below hBw)
  have tb_12 := Lib.hid (tb_11.out.below hBw)
  have kt_12 := Lib.hid (kt_11.out.below hBw)
  have rx_12 := Lib.hid (rx_11.out.below hBw)
  have sol_12 := Lib.hid (sol_11.out.below hBw)
  have pv_12 := Lib.hid (hpp)
  have HB_12 := Lib.hid (below_trans HB_11.out hBw)
  clear hBw hb p_11 q_11 ra_11 p2_11 q2_11 rb_11 tb_11 kt_11 x_11 y_11 rx_11 sol_11 HB_11
  clear hp hpp e1 e2
  go_wp2_with fail
  refine Calls.mono (rof3_q 1 2 _ (by omega) (by omega) (by omega) (by omega)) ?_
  rintro e w13 ⟨v, rfl, h, hb⟩
  obtain ⟨b13, A13, n13, c13, d13, B13, m13, k13, rfl, -, -, -, -, -⟩ := h.form
  have hE := EQ.of (p := true) h bqh
  have hBw := (show Below w12.heap.size w12 w13 from by first | exact hb | exact bundrew hb)
  have ra_13 := Lib.hid (ra_12.out.below hBw)
  have rb_13 := Lib.hid (rb_12.out.below hBw)
  have tb_13 := Lib.hid (tb_12.out.below hBw)
  have kt_13 := Lib.hid (kt_12.out.below hBw)
  have rx_13 := Lib.hid (rx_12.out.below hBw)
  have sol_13 := Lib.hid (sol_12.out.below hBw)
  have pv_13 := Lib.hid (pv_12.out.below hBw)
  have hf_13 := Lib.hid (hE)
  have HB_13 := Lib.hid (below_trans HB_12.out hBw)
  clear hBw hb ra_12 rb_12 tb_12 kt_12 rx_12 sol_12 pv_12 HB_12
  clear h hE
  go_wp2
  generalize hW : w13.alloc (.cells #[.bool b13, .slice A13 n13 c13, .bool d13, .slice B13 m13 k13] 27) = w14
  have hz_14 := Lib.hid (show w14.heap.size = w13.heap.size + 1 from by rw [← hW]; simp)
  have ra_14 := Lib.hid (hW ▸ ra_13.out.alloc_ _)
  have rb_14 := Lib.hid (hW ▸ rb_13.out.alloc_ _)
  have tb_14 := Lib.hid (hW ▸ tb_13.out.alloc_ _)
  have kt_14 := Lib.hid (hW ▸ kt_13.out.alloc_ _)
  have rx_14 := Lib.hid (hW ▸ rx_13.out.alloc_ _)
  have sol_14 := Lib.hid (hW ▸ sol_13.out.alloc_ _)
  have pv_14 := Lib.hid (hW ▸ pv_13.out.alloc_ _)
  have hf_14 := Lib.hid (hW ▸ hf_13.out.alloc_ _)
  have k6_14 : Hid (Blk w14 w13.heap.size 27 #[.bool b13, .slice A13 n13 c13, .bool d13, .slice B13 m13 k13]) := by rw [← hW]; exact Blk.new _ _ rfl _ _
  have HB_14 := Lib.hid (show Below w.heap.size w w14 from hW ▸ halloc HB_13.out)
  clear hW ra_13 rb_13 tb_13 kt_13 rx_13 sol_13 pv_13 hf_13 HB_13
  obtain ⟨x0, x1, xl⟩ := kt_14.out.use2
  have tok0 : True := trivial
  have hnt : w14.heap.size ≠ w5.heap.size + 1 := by have := kt_14.out.lt; omega
  go_region_held3 (fun w' => w'.cell? ⟨w5.heap.size + 1, 0, none⟩ = some (.slice (some ⟨w2.heap.size, 0, none⟩) 2 2) ∧ w'.cell? ⟨w5.heap.size + 1, 1, none⟩ = some (.slice (some ⟨w5.heap.size, 0, none⟩) 2 2)) (first | (refine ⟨?_, ?_⟩ <;> (first | with_reducible assumption | ((with_reducible refine Eq.trans (cell_drew _ _) ?_); with_reducible assumption) | ((repeat rw [World.cell?_setCell_far _ _ _ _ (by first | exact hnt)]); with_reducible assumption) | go_keep)) | go_keep)
    (first
      | (go_at_call 12; have _t := tok0; clear _t tok0; ((with_reducible refine Calls.mono (aw_dot (ra_14.out.rowQ.drew_) (rb_14.out.rowQ.drew_)) ?_)); rintro e w15 ⟨v, rfl, h, hb⟩; obtain ⟨b15, A15, n15, c15, d15, B15, m15, k15, rfl, -, -, -, -, -⟩ := h.form; have hBw := Lib.hid (show Below w14.heap.size w14 w15 from bundrew hb); have hkt := kt_14.out.below hBw.out; obtain ⟨y0, y1, yl⟩ := hkt.use2; have hQ := Lib.hid h; clear h hb x0 x1 xl hkt)
      | (go_at_call 12; have _t := tok0; clear _t tok0; ((with_reducible refine Calls.mono (aw_dot ((ra_14.out.rowQ.alloc_ _).drew_) ((rb_14.out.rowQ.alloc_ _).drew_)) ?_)); rintro e w15 ⟨v, rfl, h, hb⟩; obtain ⟨b15, A15, n15, c15, d15, B15, m15, k15, rfl, -, -, -, -, -⟩ := h.form; have hBw := Lib.hid (show Below w14.heap.size w14 w15 from by first | exact bundrew (bun hb) | exact bun (bundrew hb)); have hkt := kt_14.out.below hBw.out; obtain ⟨y0, y1, yl⟩ := hkt.use2; have hQ := Lib.hid h; have K8 := Lib.hid (show Blk w15 w14.heap.size 27 #[.bool false, .slice none 0 0, .bool false, .slice none 0 0] from (Blk.new _ _ rfl _ _).below (show Below (w14.alloc (.cells #[.bool false, .slice none 0 0, .bool false, .slice none 0 0] 27)).heap.size (w14.alloc (.cells #[.bool false, .slice none 0 0, .bool false, .slice none 0 0] 27)) w15 from bundrew hb)); obtain ⟨g0, g1, g2, g3, gl⟩ := K8.out.use4; obtain ⟨i0, i1, i2, i3⟩ := K8.out.into4; clear h hb x0 x1 xl hkt))
  focus
    obtain ⟨w16, hW⟩ : ∃ W, W = w15.alloc (.cells #[.bool b15, .slice A15 n15 c15, .bool d15, .slice B15 m15 k15] 27) := ⟨_, rfl⟩
    obtain ⟨g8, hg8⟩ : ∃ g, g = w15.heap.size := ⟨_, rfl⟩
    rw [← hW, ← hg8]
    have k8_16 : Hid (Blk w16 g8 27 #[.bool b15, .slice A15 n15 c15, .bool d15, .slice B15 m15 k15]) := by (rw [hW];  exact Blk.new _ _ hg8 _ _)
    have d8_16 : Hid (EQ true 1 w16 (.agg #[.bool b15, .slice A15 n15 c15, .bool d15, .slice B15 m15 k15]) 3) := by (rw [hW];  exact (EQ.of (p := true) hQ.out bq3).alloc_ _)
    have HBz : Hid (Below w14.heap.size w14 w16) := by (rw [hW];  exact below_trans hBw.out (below_new _ _))
    clear hW hg8
  rotate_left 1
  focus
    obtain ⟨w16, hW⟩ : ∃ W, W = ((((w15.setCell ⟨w14.heap.size, 0, none⟩ (.bool b15)).setCell ⟨w14.heap.size, 1, none⟩ (.slice A15 n15 c15)).setCell ⟨w14.heap.size, 2, none⟩ (.bool d15)).setCell ⟨w14.heap.size, 3, none⟩ (.slice B15 m15 k15)) := ⟨_, rfl⟩
    obtain ⟨g8, hg8⟩ : ∃ g, g = w14.heap.size := ⟨_, rfl⟩
    rw [← hW, ← hg8]
    have k8_16 : Hid (Blk w16 g8 27 #[.bool b15, .slice A15 n15 c15, .bool d15, .slice B15 m15 k15]) := by (rw [hW, hg8];  exact K8.out.own4)
    have d8_16 : Hid (EQ true 1 w16 (.agg #[.bool b15, .slice A15 n15 c15, .bool d15, .slice B15 m15 k15]) 3) := by (rw [hW];  exact EQ.of (p := true) (hQ.out.other4 K8.out nu nu nu nu) bq3)
    have HBz : Hid (Below w14.heap.size w14 w16) := by (rw [hW];  exact Below.set4 hBw.out (Nat.le_refl _))
    clear hW hg8
  all_goals
    have ra_16 := Lib.hid (ra_14.out.below HBz.out)
    have rb_16 := Lib.hid (rb_14.out.below HBz.out)
    have tb_16 := Lib.hid (tb_14.out.below HBz.out)
    have kt_16 := Lib.hid (kt_14.out.below HBz.out)
    have rx_16 := Lib.hid (rx_14.out.below HBz.out)
    have sol_16 := Lib.hid (sol_14.out.below HBz.out)
    have pv_16 := Lib.hid (pv_14.out.below HBz.out)
    have hf_16 := Lib.hid (hf_14.out.below HBz.out)
    have k6_16 := Lib.hid (k6_14.out.below HBz.out)
    have HB_16 := Lib.hid (below_trans HB_14.out HBz.out)
    clear hBw hQ HBz y0 y1 yl ra_14 rb_14 tb_14 kt_14 rx_14 sol_14 pv_14 hf_14 k6_14 HB_14
    go_wp2
    obtain ⟨x0, x1, xl⟩ := kt_16.out.use2
    have tok0 : True := trivial
    have tok1 : True := trivial
    go_region_held3 (fun w' => w'.cell? ⟨w5.heap.size + 1, 0, none⟩ = some (.slice (some ⟨w2.heap.size, 0, none⟩) 2 2) ∧ w'.cell? ⟨w5.heap.size + 1, 1, none⟩ = some (.slice (some ⟨w5.heap.size, 0, none⟩) 2 2)) (first | (refine ⟨?_, ?_⟩ <;> (first | with_reducible assumption | ((with_reducible refine Eq.trans (cell_drew _ _) ?_); with_reducible assumption) | go_keep)) | go_keep)
      (first
        | (go_at_call 23; have _t := tok0; clear _t tok0; ((with_reducible refine Calls.mono (lawOf_is law_dm2 _ (by omega) (by omega)) ?_)); rintro e w17 ⟨v, rfl, h, hb⟩; obtain ⟨b17, A17, n17, c17, d17, B17, m17, k17, rfl, -, -, -, -, -⟩ := h.form; have hB1 := Lib.hid (show Below w16.heap.size w16 w17 from by first | exact hb | exact bundrew hb); have hkt := kt_16.out.below hB1.out; obtain ⟨y0, y1, yl⟩ := hkt.use2; have hZ := Lib.hid (h.limQ bqm2); clear h hb x0 x1 xl hkt)
        | (go_at_call 14; have _t := tok1; clear _t tok1; ((with_reducible refine Calls.mono (aw_add (ra_16.out.rowQ.below hB1.out) (rb_16.out.rowQ.below hB1.out) hZ.out) ?_)); rintro e w18 ⟨v, rfl, h, hb⟩; obtain ⟨EA, EC, rfl, _, _⟩ := h.rowQ.len; have hB2 := Lib.hid (below_trans hB1.out hb); have hkt := kt_16.out.below hB2.out; obtain ⟨z0, z1, zl⟩ := hkt.use2; have hS := Lib.hid h; clear h hb hB1 hZ y0 y1 yl hkt))
    have ra_18 := Lib.hid (ra_16.out.below hB2.out)
    have rb_18 := Lib.hid (rb_16.out.below hB2.out)
    have tb_18 := Lib.hid (tb_16.out.below hB2.out)
    have kt_18 := Lib.hid (kt_16.out.below hB2.out)
    have rx_18 := Lib.hid (rx_16.out.below hB2.out)
    have sol_18 := Lib.hid (sol_16.out.below hB2.out)
    have pv_18 := Lib.hid (pv_16.out.below hB2.out)
    have hf_18 := Lib.hid (hf_16.out.below hB2.out)
    have k6_18 := Lib.hid (k6_16.out.below hB2.out)
    have k8_18 := Lib.hid (k8_16.out.below hB2.out)
    have d8_18 := Lib.hid (d8_16.out.below hB2.out)
    have ss_18 := hS
    have HB_18 := Lib.hid (below_trans HB_16.out hB2.out)
    clear hB2 z0 z1 zl ra_16 rb_16 tb_16 kt_16 rx_16 sol_16 pv_16 hf_16 k6_16 k8_16 d8_16 HB_16
    go_wp2
    obtain ⟨x180, x181, x182, x183, x184⟩ := k6_18.out.use4
    obtain ⟨y180, y181, y182, y183, y184⟩ := k8_18.out.use4
    refine wp_region_held_drew (S := (fun w' => w'.cell? ⟨w13.heap.size, 0, none⟩ = some (.bool b13) ∧ w'.cell? ⟨w13.heap.size, 1, none⟩ = some (.slice A13 n13 c13) ∧ w'.cell? ⟨w13.heap.size, 2, none⟩ = some (.bool d13) ∧ w'.cell? ⟨w13.heap.size, 3, none⟩ = some (.slice B13 m13 k13) ∧ w'.cell? ⟨g8, 0, none⟩ = some (.bool b15) ∧ w'.cell? ⟨g8, 1, none⟩ = some (.slice A15 n15 c15) ∧ w'.cell? ⟨g8, 2, none⟩ = some (.bool d15) ∧ w'.cell? ⟨g8, 3, none⟩ = some (.slice B15 m15 k15))) (by kernel_rfl) ?_ (fun hHeld => ?_)
    · (first | (refine ⟨?_, ?_, ?_, ?_, ?_, ?_, ?_, ?_⟩ <;> (first | with_reducible assumption | ((with_reducible refine Eq.trans (cell_drew _ _) ?_); with_reducible assumption) | go_keep)) | go_keep)
    refine wpAnyH_take (i := 0) (v := ?_) rfl (by kernel_rfl) (by kernel_rfl) (by kernel_rfl) (fun _ _ _ h => h) (Or.inl ⟨by kernel_rfl, ?_⟩) (by assumption) ?_
    rotate_left
    · intro w hSw; (try dsimp only at hSw); go_simp <;> (try with_reducible rfl)
    (try simp only [Act.put, List.setIfInBounds_toArray, List.set_cons_zero, List.set_cons_succ, List.getElem_toArray, List.getElem_cons_succ, List.getElem_cons_zero])
    refine wpAnyH_take (i := 1) (v := ?_) rfl (by kernel_rfl) (by kernel_rfl) (by kernel_rfl) (fun _ _ _ h => h) (Or.inl ⟨by kernel_rfl, ?_⟩) (by assumption) ?_
    rotate_left
    · intro w hSw; (try dsimp only at hSw); go_simp <;> (try with_reducible rfl)
    (try simp only [Act.put, List.setIfInBounds_toArray, List.set_cons_zero, List.set_cons_succ, List.getElem_toArray, List.getElem_cons_succ, List.getElem_cons_zero])
    refine wpAnyH_take (i := 2) (v := ?_) rfl (by kernel_rfl) (by kernel_rfl) (by kernel_rfl) (fun _ _ _ h => h) (Or.inl ⟨by kernel_rfl, ?_⟩) (by assumption) ?_
    rotate_left
    · intro w hSw; (try dsimp only at hSw); go_simp <;> (try with_reducible rfl)
    (try simp only [Act.put, List.setIfInBounds_toArray, List.set_cons_zero, List.set_cons_succ, List.getElem_toArray, List.getElem_cons_succ, List.getElem_cons_zero])
    refine wpAnyH_ready (rs := [3]) (by kernel_rfl) (by simp) ?_
    refine AllReadyH.cons rfl (fun Kz hKz => ?_) AllReadyH.nil
    go_simp
    refine Calls.mono (lawOf_is law_d1 _ (by omega) (by omega)) ?_
    rintro e w19 ⟨v, rfl, h, hb⟩
    obtain ⟨b19, A19, n19, c19, d19, B19, m19, k19, rfl, -, -, -, -, -⟩ := h.form
    have hE := EQ.of (p := true) h bq1
    have hBw := (show Below w18.heap.size w18 w19 from by first | exact hb | exact bundrew hb)
    have ra_19 := Lib.hid (ra_18.out.below hBw)
    have rb_19 := Lib.hid (rb_18.out.below hBw)
    have tb_19 := Lib.hid (tb_18.out.below hBw)
    have kt_19 := Lib.hid (kt_18.out.below hBw)
    have rx_19 := Lib.hid (rx_18.out.below hBw)
    have sol_19 := Lib.hid (sol_18.out.below hBw)
    have pv_19 := Lib.hid (pv_18.out.below hBw)
    have hf_19 := Lib.hid (hf_18.out.below hBw)
    have k6_19 := Lib.hid (k6_18.out.below hBw)
    have k8_19 := Lib.hid (k8_18.out.below hBw)
    have d8_19 := Lib.hid (d8_18.out.below hBw)
    have ss_19 := Lib.hid (ss_18.out.below hBw)
    have e1_19 := Lib.hid (hE)
    have HB_19 := Lib.hid (below_trans HB_18.out hBw)
    clear hBw hb ra_18 rb_18 tb_18 kt_18 rx_18 sol_18 pv_18 hf_18 k6_18 k8_18 d8_18 ss_18 HB_18
    clear h hE
    obtain ⟨x190, x191, x192, x193, x194⟩ := k6_19.out.use4
    obtain ⟨y190, y191, y192, y193, y194⟩ := k8_19.out.use4
    clear x180 x181 x182 x183 x184 y180 y181 y182 y183 y184

    refine hKz.out _ _ ?_ (fun hHeld => ?_)
    · (try dsimp only); (first | (refine ⟨?_, ?_, ?_, ?_, ?_, ?_, ?_, ?_⟩ <;> (first | with_reducible assumption | ((with_reducible refine Eq.trans (cell_drew _ _) ?_); with_reducible assumption) | go_keep)) | go_keep)
    clear hKz Kz
    (try simp only [Act.put, List.setIfInBounds_toArray, List.set_cons_zero, List.set_cons_succ, List.getElem_toArray, List.getElem_cons_succ, List.getElem_cons_zero])
    refine wpAnyH_ready (rs := [4]) (by kernel_rfl) (by simp) ?_
    refine AllReadyH.cons rfl (fun Kz hKz => ?_) AllReadyH.nil
    go_simp
    refine Calls.mono (lawOf_is law_d1 _ (by omega) (by omega)) ?_
    rintro e w20 ⟨v, rfl, h, hb⟩
    obtain ⟨b20, A20, n20, c20, d20, B20, m20, k20, rfl, -, -, -, -, -⟩ := h.form
    have hE := EQ.of (p := true) h bq1
    have hBw := (show Below w19.heap.size w19 w20 from by first | exact hb | exact bundrew hb)
    have ra_20 := Lib.hid (ra_19.out.below hBw)
    have rb_20 := Lib.hid (rb_19.out.below hBw)
    have tb_20 := Lib.hid (tb_19.out.below hBw)
    have kt_20 := Lib.hid (kt_19.out.below hBw)
    have rx_20 := Lib.hid (rx_19.out.below hBw)
    have sol_20 := Lib.hid (sol_19.out.below hBw)
    have pv_20 := Lib.hid (pv_19.out.below hBw)
    have hf_20 := Lib.hid (hf_19.out.below hBw)
    have k6_20 := Lib.hid (k6_19.out.below hBw)
    have k8_20 := Lib.hid (k8_19.out.below hBw)
    have d8_20 := Lib.hid (d8_19.out.below hBw)
    have ss_20 := Lib.hid (ss_19.out.below hBw)
    have e1_20 := Lib.hid (e1_19.out.below hBw)
    have e2_20 := Lib.hid (hE)
    have HB_20 := Lib.hid (below_trans HB_19.out hBw)
    clear hBw hb ra_19 rb_19 tb_19 kt_19 rx_19 sol_19 pv_19 hf_19 k6_19 k8_19 d8_19 ss_19 e1_19 HB_19
    clear h hE
    obtain ⟨x200, x201, x202, x203, x204⟩ := k6_20.out.use4
    obtain ⟨y200, y201, y202, y203, y204⟩ := k8_20.out.use4
    clear x190 x191 x192 x193 x194 y190 y191 y192 y193 y194

    refine hKz.out _ _ ?_ (fun hHeld => ?_)
    · (try dsimp only); (first | (refine ⟨?_, ?_, ?_, ?_, ?_, ?_, ?_, ?_⟩ <;> (first | with_reducible assumption | ((with_reducible refine Eq.trans (cell_drew _ _) ?_); with_reducible assumption) | go_keep)) | go_keep)
    clear hKz Kz
    (try simp only [Act.put, List.setIfInBounds_toArray, List.set_cons_zero, List.set_cons_succ, List.getElem_toArray, List.getElem_cons_succ, List.getElem_cons_zero])
    refine wpAnyH_ready (rs := [5]) (by kernel_rfl) (by simp) ?_
    refine AllReadyH.cons rfl (fun Kz hKz => ?_) AllReadyH.nil
    go_simp
    generalize hW : w20.alloc (.cells #[.bool b19, .slice A19 n19 c19, .bool d19, .slice B19 m19 k19, .bool b20, .slice A20 n20 c20, .bool d20, .slice B20 m20 k20] 27) = w21
    have hz_21 := Lib.hid (show w21.heap.size = w20.heap.size + 1 from by rw [← hW]; simp)
    have ra_21 := Lib.hid (hW ▸ ra_20.out.alloc_ _)
    have rb_21 := Lib.hid (hW ▸ rb_20.out.alloc_ _)
    have tb_21 := Lib.hid (hW ▸ tb_20.out.alloc_ _)
    have kt_21 := Lib.hid (hW ▸ kt_20.out.alloc_ _)
    have rx_21 := Lib.hid (hW ▸ rx_20.out.alloc_ _)
    have sol_21 := Lib.hid (hW ▸ sol_20.out.alloc_ _)
    have pv_21 := Lib.hid (hW ▸ pv_20.out.alloc_ _)
    have hf_21 := Lib.hid (hW ▸ hf_20.out.alloc_ _)
    have k6_21 := Lib.hid (hW ▸ k6_20.out.alloc_ _)
    have k8_21 := Lib.hid (hW ▸ k8_20.out.alloc_ _)
    have d8_21 := Lib.hid (hW ▸ d8_20.out.alloc_ _)
    have ss_21 := Lib.hid (hW ▸ ss_20.out.alloc_ _)
    have e1_21 := Lib.hid (hW ▸ e1_20.out.alloc_ _)
    have e2_21 := Lib.hid (hW ▸ e2_20.out.alloc_ _)
    have re_21 : Hid (RowT true 1 w21 (.slice (some ⟨w20.heap.size, 0, none⟩) 2 2) 2 (twoR 1 1)) := by rw [← hW]; exact row2 rfl e1_20.out e2_20.out
    have HB_21 := Lib.hid (show Below w.heap.size w w21 from hW ▸ halloc HB_20.out)
    clear hW ra_20 rb_20 tb_20 kt_20 rx_20 sol_20 pv_20 hf_20 k6_20 k8_20 d8_20 ss_20 e1_20 e2_20 HB_20
    obtain ⟨x210, x211, x212, x213, x214⟩ := k6_21.out.use4
    obtain ⟨y210, y211, y212, y213, y214⟩ := k8_21.out.use4
    clear x200 x201 x202 x203 x204 y200 y201 y202 y203 y204

    refine hKz.out _ _ ?_ (fun hHeld => ?_)
    · (try dsimp only); (first | (refine ⟨?_, ?_, ?_, ?_, ?_, ?_, ?_, ?_⟩ <;> (first | with_reducible assumption | ((with_reducible refine Eq.trans (cell_drew _ _) ?_); with_reducible assumption) | go_keep)) | go_keep)
    clear hKz Kz
    (try simp only [Act.put, List.setIfInBounds_toArray, List.set_cons_zero, List.set_cons_succ, List.getElem_toArray, List.getElem_cons_succ, List.getElem_cons_zero])
    refine wpAnyH_ready (rs := [6]) (by kernel_rfl) (by simp) ?_
    refine AllReadyH.cons rfl (fun Kz hKz => ?_) AllReadyH.nil
    go_simp
    refine Calls.mono (rsame sol_21.out.rowQ re_21.out.rowQ (fun i hi => by unfold twoR; split <;> rfl) (by decide)) ?_
    rintro e w22 ⟨rfl, hb⟩
    have hBw := (show Below w21.heap.size w21 w22 from by first | exact hb | exact bundrew hb)
    have ra_22 := Lib.hid (ra_21.out.below hBw)
    have rb_22 := Lib.hid (rb_21.out.below hBw)
    have tb_22 := Lib.hid (tb_21.out.below hBw)
    have kt_22 := Lib.hid (kt_21.out.below hBw)
    have rx_22 := Lib.hid (rx_21.out.below hBw)
    have sol_22 := Lib.hid (sol_21.out.below hBw)
    have pv_22 := Lib.hid (pv_21.out.below hBw)
    have hf_22 := Lib.hid (hf_21.out.below hBw)
    have k6_22 := Lib.hid (k6_21.out.below hBw)
    have k8_22 := Lib.hid (k8_21.out.below hBw)
    have d8_22 := Lib.hid (d8_21.out.below hBw)
    have ss_22 := Lib.hid (ss_21.out.below hBw)
    have e1_22 := Lib.hid (e1_21.out.below hBw)
    have e2_22 := Lib.hid (e2_21.out.below hBw)
    have re_22 := Lib.hid (re_21.out.below hBw)
    have HB_22 := Lib.hid (below_trans HB_21.out hBw)
    clear hBw hb ra_21 rb_21 tb_21 kt_21 rx_21 sol_21 pv_21 hf_21 k6_21 k8_21 d8_21 ss_21 e1_21 e2_21 re_21 HB_21
    obtain ⟨x220, x221, x222, x223, x224⟩ := k6_22.out.use4
    obtain ⟨y220, y221, y222, y223, y224⟩ := k8_22.out.use4
    clear x210 x211 x212 x213 x214 y210 y211 y212 y213 y214

    refine hKz.out _ _ ?_ (fun hHeld => ?_)
    · (try dsimp only); (first | (refine ⟨?_, ?_, ?_, ?_, ?_, ?_, ?_, ?_⟩ <;> (first | with_reducible assumption | ((with_reducible refine Eq.trans (cell_drew _ _) ?_); with_reducible assumption) | go_keep)) | go_keep)
    clear hKz Kz
    (try simp only [Act.put, List.setIfInBounds_toArray, List.set_cons_zero, List.set_cons_succ, List.getElem_toArray, List.getElem_cons_succ, List.getElem_cons_zero])
    refine wpAnyH_take (i := 7) (v := ?_) rfl (by kernel_rfl) (by kernel_rfl) (by kernel_rfl) (fun _ _ _ h => h) (Or.inl ⟨by kernel_rfl, ?_⟩) (by assumption) ?_
    rotate_left
    · intro w hSw; (try dsimp only at hSw); go_simp <;> (try with_reducible rfl)
    (try simp only [Act.put, List.setIfInBounds_toArray, List.set_cons_zero, List.set_cons_succ, List.getElem_toArray, List.getElem_cons_succ, List.getElem_cons_zero])
    refine wpAnyH_take (i := 8) (v := ?_) rfl (by kernel_rfl) (by kernel_rfl) (by kernel_rfl) (fun _ _ _ h => h) (Or.inl ⟨by kernel_rfl, ?_⟩) (by assumption) ?_
    rotate_left
    · intro w hSw; (try dsimp only at hSw); go_simp <;> (try with_reducible rfl)
    (try simp only [Act.put, List.setIfInBounds_toArray, List.set_cons_zero, List.set_cons_succ, List.getElem_toArray, List.getElem_cons_succ, List.getElem_cons_zero])
    refine wpAnyH_take (i := 9) (v := ?_) rfl (by kernel_rfl) (by kernel_rfl) (by kernel_rfl) (fun _ _ _ h => h) (Or.inl ⟨by kernel_rfl, ?_⟩) (by assumption) ?_
    rotate_left
    · intro w hSw; (try dsimp only at hSw); go_simp <;> (try with_reducible rfl)
    (try simp only [Act.put, List.setIfInBounds_toArray, List.set_cons_zero, List.set_cons_succ, List.getElem_toArray, List.getElem_cons_succ, List.getElem_cons_zero])
    refine wpAnyH_take (i := 10) (v := ?_) rfl (by kernel_rfl) (by kernel_rfl) (by kernel_rfl) (fun _ _ _ h => h) (Or.inl ⟨by kernel_rfl, ?_⟩) (by assumption) ?_
    rotate_left
    · intro w hSw; (try dsimp only at hSw); go_simp <;> (try with_reducible rfl)
    (try simp only [Act.put, List.setIfInBounds_toArray, List.set_cons_zero, List.set_cons_succ, List.getElem_toArray, List.getElem_cons_succ, List.getElem_cons_zero])
    refine wpAnyH_take (i := 11) (v := ?_) rfl (by kernel_rfl) (by kernel_rfl) (by kernel_rfl) (fun _ _ _ h => h) (Or.inl ⟨by kernel_rfl, ?_⟩) (by assumption) ?_
    rotate_left
    · intro w hSw; (try dsimp only at hSw); go_simp <;> (try with_reducible rfl)
    (try simp only [Act.put, List.setIfInBounds_toArray, List.set_cons_zero, List.set_cons_succ, List.getElem_toArray, List.getElem_cons_succ, List.getElem_cons_zero])
    refine wpAnyH_take (i := 12) (v := ?_) rfl (by kernel_rfl) (by kernel_rfl) (by kernel_rfl) (fun _ _ _ h => h) (Or.inl ⟨by kernel_rfl, ?_⟩) (by assumption) ?_
    rotate_left
    · intro w hSw; (try dsimp only at hSw); go_simp <;> (try with_reducible rfl)
    (try simp only [Act.put, List.setIfInBounds_toArray, List.set_cons_zero, List.set_cons_succ, List.getElem_toArray, List.getElem_cons_succ, List.getElem_cons_zero])
    refine wpAnyH_take (i := 14) (v := ?_) rfl (by kernel_rfl) (by kernel_rfl) (by kernel_rfl) (fun _ _ _ h => h) (Or.inl ⟨by kernel_rfl, ?_⟩) (by assumption) ?_
    rotate_left
    · intro w hSw; (try dsimp only at hSw); go_simp <;> (try with_reducible rfl)
    (try simp only [Act.put, List.setIfInBounds_toArray, List.set_cons_zero, List.set_cons_succ, List.getElem_toArray, List.getElem_cons_succ, List.getElem_cons_zero])
    refine wpAnyH_take (i := 17) (v := ?_) rfl (by kernel_rfl) (by kernel_rfl) (by kernel_rfl) (fun _ _ _ h => h) (Or.inl ⟨by kernel_rfl, ?_⟩) (by assumption) ?_
    rotate_left
    · intro w hSw; (try dsimp only at hSw); go_simp <;> (try with_reducible rfl)
    (try simp only [Act.put, List.setIfInBounds_toArray, List.set_cons_zero, List.set_cons_succ, List.getElem_toArray, List.getElem_cons_succ, List.getElem_cons_zero])
    refine wpAnyH_ready (rs := [13]) (by kernel_rfl) (by simp) ?_
    refine AllReadyH.cons rfl (fun Kz hKz => ?_) AllReadyH.nil
    go_simp
    refine Calls.mono (lawOf_is law_d1 _ (by omega) (by omega)) ?_
    rintro e w23 ⟨v, rfl, h, hb⟩
    obtain ⟨b23, A23, n23, c23, d23, B23, m23, k23, rfl, -, -, -, -, -⟩ := h.form
    have hE := EQ.of (p := true) h bq1
    have hBw := (show Below w22.heap.size w22 w23 from by first | exact hb | exact bundrew hb)
    have ra_23 := Lib.hid (ra_22.out.below hBw)
    have rb_23 := Lib.hid (rb_22.out.below hBw)
    have tb_23 := Lib.hid (tb_22.out.below hBw)
    have kt_23 := Lib.hid (kt_22.out.below hBw)
    have rx_23 := Lib.hid (rx_22.out.below hBw)
    have sol_23 := Lib.hid (sol_22.out.below hBw)
    have pv_23 := Lib.hid (pv_22.out.below hBw)
    have hf_23 := Lib.hid (hf_22.out.below hBw)
    have k6_23 := Lib.hid (k6_22.out.below hBw)
    have k8_23 := Lib.hid (k8_22.out.below hBw)
    have d8_23 := Lib.hid (d8_22.out.below hBw)
    have ss_23 := Lib.hid (ss_22.out.below hBw)
    have e1_23 := Lib.hid (e1_22.out.below hBw)
    have e2_23 := Lib.hid (e2_22.out.below hBw)
    have re_23 := Lib.hid (re_22.out.below hBw)
    have f1_23 := Lib.hid (hE)
    have HB_23 := Lib.hid (below_trans HB_22.out hBw)
    clear hBw hb ra_22 rb_22 tb_22 kt_22 rx_22 sol_22 pv_22 hf_22 k6_22 k8_22 d8_22 ss_22 e1_22 e2_22 re_22 HB_22
    clear h hE
    obtain ⟨x230, x231, x232, x233, x234⟩ := k6_23.out.use4
    obtain ⟨y230, y231, y232, y233, y234⟩ := k8_23.out.use4
    clear x220 x221 x222 x223 x224 y220 y221 y222 y223 y224

    refine hKz.out _ _ ?_ (fun hHeld => ?_)
    · (try dsimp only); (first | (refine ⟨?_, ?_, ?_, ?_, ?_, ?_, ?_, ?_⟩ <;> (first | with_reducible assumption | ((with_reducible refine Eq.trans (cell_drew _ _) ?_); with_reducible assumption) | go_keep)) | go_keep)
    clear hKz Kz
    (try simp only [Act.put, List.setIfInBounds_toArray, List.set_cons_zero, List.set_cons_succ, List.getElem_toArray, List.getElem_cons_succ, List.getElem_cons_zero])
    refine wpAnyH_ready (rs := [15, 16]) (by kernel_rfl) (by simp) ?_
    refine AllReadyH.cons rfl (fun Kz hKz => ?_) (AllReadyH.cons rfl (fun Kz hKz => ?_) AllReadyH.nil)
    focus
      go_simp
      generalize hW : w23.alloc (.cells #[.bool b23, .slice A23 n23 c23, .bool d23, .slice B23 m23 k23, .bool b13, .slice A13 n13 c13, .bool d13, .slice B13 m13 k13] 27) = w24
      have hz_24 := Lib.hid (show w24.heap.size = w23.heap.size + 1 from by rw [← hW]; simp)
      have ra_24 := Lib.hid (hW ▸ ra_23.out.alloc_ _)
      have rb_24 := Lib.hid (hW ▸ rb_23.out.alloc_ _)
      have tb_24 := Lib.hid (hW ▸ tb_23.out.alloc_ _)
      have kt_24 := Lib.hid (hW ▸ kt_23.out.alloc_ _)
      have rx_24 := Lib.hid (hW ▸ rx_23.out.alloc_ _)
      have sol_24 := Lib.hid (hW ▸ sol_23.out.alloc_ _)
      have pv_24 := Lib.hid (hW ▸ pv_23.out.alloc_ _)
      have hf_24 := Lib.hid (hW ▸ hf_23.out.alloc_ _)
      have k6_24 := Lib.hid (hW ▸ k6_23.out.alloc_ _)
      have k8_24 := Lib.hid (hW ▸ k8_23.out.alloc_ _)
      have d8_24 := Lib.hid (hW ▸ d8_23.out.alloc_ _)
      have ss_24 := Lib.hid (hW ▸ ss_23.out.alloc_ _)
      have e1_24 := Lib.hid (hW ▸ e1_23.out.alloc_ _)
      have e2_24 := Lib.hid (hW ▸ e2_23.out.alloc_ _)
      have re_24 := Lib.hid (hW ▸ re_23.out.alloc_ _)
      have f1_24 := Lib.hid (hW ▸ f1_23.out.alloc_ _)
      have rf_24 : Hid (RowT true 1 w24 (.slice (some ⟨w23.heap.size, 0, none⟩) 2 2) 2 (twoR 1 (Rat.divInt 1 2))) := by rw [← hW]; exact row2 rfl f1_23.out hf_23.out
      have HB_24 := Lib.hid (show Below w.heap.size w w24 from hW ▸ halloc HB_23.out)
      clear hW ra_23 rb_23 tb_23 kt_23 rx_23 sol_23 pv_23 hf_23 k6_23 k8_23 d8_23 ss_23 e1_23 e2_23 re_23 f1_23 HB_23
      obtain ⟨x240, x241, x242, x243, x244⟩ := k6_24.out.use4
      obtain ⟨y240, y241, y242, y243, y244⟩ := k8_24.out.use4
      clear x230 x231 x232 x233 x234 y230 y231 y232 y233 y234

      refine hKz.out _ _ ?_ (fun hHeld => ?_)
      · (try dsimp only); (first | (refine ⟨?_, ?_, ?_, ?_, ?_, ?_, ?_, ?_⟩ <;> (first | with_reducible assumption | ((with_reducible refine Eq.trans (cell_drew _ _) ?_); with_reducible assumption) | go_keep)) | go_keep)
      clear hKz Kz
      (try simp only [Act.put, List.setIfInBounds_toArray, List.set_cons_zero, List.set_cons_succ, List.getElem_toArray, List.getElem_cons_succ, List.getElem_cons_zero])
      refine wpAnyH_ready (rs := [16]) (by kernel_rfl) (by simp) ?_
      refine AllReadyH.cons rfl (fun Kz hKz => ?_) AllReadyH.nil
      go_simp
      refine Calls.mono (lawOf_is law_d0 _ (by omega) (by omega)) ?_
      rintro e w25 ⟨v, rfl, h, hb⟩
      obtain ⟨b25, A25, n25, c25, d25, B25, m25, k25, rfl, -, -, -, -, -⟩ := h.form
      have hE := EQ.of (p := true) h bq0
      have hBw := (show Below w24.heap.size w24 w25 from by first | exact hb | exact bundrew hb)
      have ra_25 := Lib.hid (ra_24.out.below hBw)
      have rb_25 := Lib.hid (rb_24.out.below hBw)
      have tb_25 := Lib.hid (tb_24.out.below hBw)
      have kt_25 := Lib.hid (kt_24.out.below hBw)
      have rx_25 := Lib.hid (rx_24.out.below hBw)
      have sol_25 := Lib.hid (sol_24.out.below hBw)
      have pv_25 := Lib.hid (pv_24.out.below hBw)
      have hf_25 := Lib.hid (hf_24.out.below hBw)
      have k6_25 := Lib.hid (k6_24.out.below hBw)
      have k8_25 := Lib.hid (k8_24.out.below hBw)
      have d8_25 := Lib.hid (d8_24.out.below hBw)
      have ss_25 := Lib.hid (ss_24.out.below hBw)
      have e1_25 := Lib.hid (e1_24.out.below hBw)
      have e2_25 := Lib.hid (e2_24.out.below hBw)
      have re_25 := Lib.hid (re_24.out.below hBw)
      have f1_25 := Lib.hid (f1_24.out.below hBw)
      have rf_25 := Lib.hid (rf_24.out.below hBw)
      have f2_25 := Lib.hid (hE)
      have HB_25 := Lib.hid (below_trans HB_24.out hBw)
      clear hBw hb ra_24 rb_24 tb_24 kt_24 rx_24 sol_24 pv_24 hf_24 k6_24 k8_24 d8_24 ss_24 e1_24 e2_24 re_24 f1_24 rf_24 HB_24
      clear h hE
      obtain ⟨x250, x251, x252, x253, x254⟩ := k6_25.out.use4
      obtain ⟨y250, y251, y252, y253, y254⟩ := k8_25.out.use4
      clear x240 x241 x242 x243 x244 y240 y241 y242 y243 y244

      refine hKz.out _ _ ?_ (fun hHeld => ?_)
      · (try dsimp only); (first | (refine ⟨?_, ?_, ?_, ?_, ?_, ?_, ?_, ?_⟩ <;> (first | with_reducible assumption | ((with_reducible refine Eq.trans (cell_drew _ _) ?_); with_reducible assumption) | go_keep)) | go_keep)
      clear hKz Kz
      (try simp only [Act.put, List.setIfInBounds_toArray, List.set_cons_zero, List.set_cons_succ, List.getElem_toArray, List.getElem_cons_succ, List.getElem_cons_zero])
      refine wpAnyH_ready (rs := [18]) (by kernel_rfl) (by simp) ?_
      refine AllReadyH.cons rfl (fun Kz hKz => ?_) AllReadyH.nil
      go_simp
      generalize hW : w25.alloc (.cells #[.bool b25, .slice A25 n25 c25, .bool d25, .slice B25 m25 k25, .bool b13, .slice A13 n13 c13, .bool d13, .slice B13 m13 k13] 27) = w26
      have hz_26 := Lib.hid (show w26.heap.size = w25.heap.size + 1 from by rw [← hW]; simp)
      have ra_26 := Lib.hid (hW ▸ ra_25.out.alloc_ _)
      have rb_26 := Lib.hid (hW ▸ rb_25.out.alloc_ _)
      have tb_26 := Lib.hid (hW ▸ tb_25.out.alloc_ _)
      have kt_26 := Lib.hid (hW ▸ kt_25.out.alloc_ _)
      have rx_26 := Lib.hid (hW ▸ rx_25.out.alloc_ _)
      have sol_26 := Lib.hid (hW ▸ sol_25.out.alloc_ _)
      have pv_26 := Lib.hid (hW ▸ pv_25.out.alloc_ _)
      have hf_26 := Lib.hid (hW ▸ hf_25.out.alloc_ _)
      have k6_26 := Lib.hid (hW ▸ k6_25.out.alloc_ _)
      have k8_26 := Lib.hid (hW ▸ k8_25.out.alloc_ _)
      have d8_26 := Lib.hid (hW ▸ d8_25.out.alloc_ _)
      have ss_26 := Lib.hid (hW ▸ ss_25.out.alloc_ _)
      have e1_26 := Lib.hid (hW ▸ e1_25.out.alloc_ _)
      have e2_26 := Lib.hid (hW ▸ e2_25.out.alloc_ _)
      have re_26 := Lib.hid (hW ▸ re_25.out.alloc_ _)
      have f1_26 := Lib.hid (hW ▸ f1_25.out.alloc_ _)
      have rf_26 := Lib.hid (hW ▸ rf_25.out.alloc_ _)
      have f2_26 := Lib.hid (hW ▸ f2_25.out.alloc_ _)
      have rg_26 : Hid (RowT true 1 w26 (.slice (some ⟨w25.heap.size, 0, none⟩) 2 2) 2 (twoR 0 (Rat.divInt 1 2))) := by rw [← hW]; exact row2 rfl f2_25.out hf_25.out
      have HB_26 := Lib.hid (show Below w.heap.size w w26 from hW ▸ halloc HB_25.out)
      clear hW ra_25 rb_25 tb_25 kt_25 rx_25 sol_25 pv_25 hf_25 k6_25 k8_25 d8_25 ss_25 e1_25 e2_25 re_25 f1_25 rf_25 f2_25 HB_25
      obtain ⟨x260, x261, x262, x263, x264⟩ := k6_26.out.use4
      obtain ⟨y260, y261, y262, y263, y264⟩ := k8_26.out.use4
      clear x250 x251 x252 x253 x254 y250 y251 y252 y253 y254

      refine hKz.out _ _ ?_ (fun hHeld => ?_)
      · (try dsimp only); (first | (refine ⟨?_, ?_, ?_, ?_, ?_, ?_, ?_, ?_⟩ <;> (first | with_reducible assumption | ((with_reducible refine Eq.trans (cell_drew _ _) ?_); with_reducible assumption) | go_keep)) | go_keep)
      clear hKz Kz
      (try simp only [Act.put, List.setIfInBounds_toArray, List.set_cons_zero, List.set_cons_succ, List.getElem_toArray, List.getElem_cons_succ, List.getElem_cons_zero])
      refine wpAnyH_ready (rs := [19]) (by kernel_rfl) (by simp) ?_
      refine AllReadyH.cons rfl (fun Kz hKz => ?_) AllReadyH.nil
      go_simp
      generalize hW : w26.alloc (.cells #[.slice (some ⟨w23.heap.size, 0, none⟩) 2 2, .slice (some ⟨w25.heap.size, 0, none⟩) 2 2] 22) = w27
      have hz_27 := Lib.hid (show w27.heap.size = w26.heap.size + 1 from by rw [← hW]; simp)
      have ra_27 := Lib.hid (hW ▸ ra_26.out.alloc_ _)
      have rb_27 := Lib.hid (hW ▸ rb_26.out.alloc_ _)
      have tb_27 := Lib.hid (hW ▸ tb_26.out.alloc_ _)
      have kt_27 := Lib.hid (hW ▸ kt_26.out.alloc_ _)
      have rx_27 := Lib.hid (hW ▸ rx_26.out.alloc_ _)
      have sol_27 := Lib.hid (hW ▸ sol_26.out.alloc_ _)
      have pv_27 := Lib.hid (hW ▸ pv_26.out.alloc_ _)
      have hf_27 := Lib.hid (hW ▸ hf_26.out.alloc_ _)
      have k6_27 := Lib.hid (hW ▸ k6_26.out.alloc_ _)
      have k8_27 := Lib.hid (hW ▸ k8_26.out.alloc_ _)
      have d8_27 := Lib.hid (hW ▸ d8_26.out.alloc_ _)
      have ss_27 := Lib.hid (hW ▸ ss_26.out.alloc_ _)
      have e1_27 := Lib.hid (hW ▸ e1_26.out.alloc_ _)
      have e2_27 := Lib.hid (hW ▸ e2_26.out.alloc_ _)
      have re_27 := Lib.hid (hW ▸ re_26.out.alloc_ _)
      have f1_27 := Lib.hid (hW ▸ f1_26.out.alloc_ _)
      have rf_27 := Lib.hid (hW ▸ rf_26.out.alloc_ _)
      have f2_27 := Lib.hid (hW ▸ f2_26.out.alloc_ _)
      have rg_27 := Lib.hid (hW ▸ rg_26.out.alloc_ _)
      have tt_27 : Hid (TabQ true 1 w27 (.slice (some ⟨w26.heap.size, 0, none⟩) 2 2) 2 (fun _ => 2) (twoT (twoR 1 (Rat.divInt 1 2)) (twoR 0 (Rat.divInt 1 2)))) := by rw [← hW]; exact tab2 rfl rf_26.out.rowQ rg_26.out.rowQ
      have HB_27 := Lib.hid (show Below w.heap.size w w27 from hW ▸ halloc HB_26.out)
      clear hW ra_26 rb_26 tb_26 kt_26 rx_26 sol_26 pv_26 hf_26 k6_26 k8_26 d8_26 ss_26 e1_26 e2_26 re_26 f1_26 rf_26 f2_26 rg_26 HB_26
      obtain ⟨x270, x271, x272, x273, x274⟩ := k6_27.out.use4
      obtain ⟨y270, y271, y272, y273, y274⟩ := k8_27.out.use4
      clear x260 x261 x262 x263 x264 y260 y261 y262 y263 y264

      refine hKz.out _ _ ?_ (fun hHeld => ?_)
      · (try dsimp only); (first | (refine ⟨?_, ?_, ?_, ?_, ?_, ?_, ?_, ?_⟩ <;> (first | with_reducible assumption | ((with_reducible refine Eq.trans (cell_drew _ _) ?_); with_reducible assumption) | go_keep)) | go_keep)
      clear hKz Kz
      (try simp only [Act.put, List.setIfInBounds_toArray, List.set_cons_zero, List.set_cons_succ, List.getElem_toArray, List.getElem_cons_succ, List.getElem_cons_zero])
      refine wpAnyH_ready (rs := [20]) (by kernel_rfl) (by simp) ?_
      refine AllReadyH.cons rfl (fun Kz hKz => ?_) AllReadyH.nil
      go_simp
      refine Calls.mono (rtables pv_27.out tt_27.out (fun _ _ => rfl) (fun _ _ _ _ => rfl) (by omega)) ?_
      rintro e w28 ⟨rfl, hb⟩
      have hBw := (show Below w27.heap.size w27 w28 from by first | exact hb | exact bundrew hb)
      have ra_28 := Lib.hid (ra_27.out.below hBw)
      have rb_28 := Lib.hid (rb_27.out.below hBw)
      have tb_28 := Lib.hid (tb_27.out.below hBw)
      have kt_28 := Lib.hid (kt_27.out.below hBw)
      have rx_28 := Lib.hid (rx_27.out.below hBw)
      have sol_28 := Lib.hid (sol_27.out.below hBw)
      have pv_28 := Lib.hid (pv_27.out.below hBw)
      have hf_28 := Lib.hid (hf_27.out.below hBw)
      have k6_28 := Lib.hid (k6_27.out.below hBw)
      have k8_28 := Lib.hid (k8_27.out.below hBw)
      have d8_28 := Lib.hid (d8_27.out.below hBw)
      have ss_28 := Lib.hid (ss_27.out.below hBw)
      have e1_28 := Lib.hid (e1_27.out.below hBw)
      have e2_28 := Lib.hid (e2_27.out.below hBw)
      have re_28 := Lib.hid (re_27.out.below hBw)
      have f1_28 := Lib.hid (f1_27.out.below hBw)
      have rf_28 := Lib.hid (rf_27.out.below hBw)
      have f2_28 := Lib.hid (f2_27.out.below hBw)
      have rg_28 := Lib.hid (rg_27.out.below hBw)
      have tt_28 := Lib.hid (tt_27.out.below hBw)
      have HB_28 := Lib.hid (below_trans HB_27.out hBw)
      clear hBw hb ra_27 rb_27 tb_27 kt_27 rx_27 sol_27 pv_27 hf_27 k6_27 k8_27 d8_27 ss_27 e1_27 e2_27 re_27 f1_27 rf_27 f2_27 rg_27 tt_27 HB_27
      obtain ⟨x280, x281, x282, x283, x284⟩ := k6_28.out.use4
      obtain ⟨y280, y281, y282, y283, y284⟩ := k8_28.out.use4
      clear x270 x271 x272 x273 x274 y270 y271 y272 y273 y274

      refine hKz.out _ _ ?_ (fun hHeld => ?_)
      · (try dsimp only); (first | (refine ⟨?_, ?_, ?_, ?_, ?_, ?_, ?_, ?_⟩ <;> (first | with_reducible assumption | ((with_reducible refine Eq.trans (cell_drew _ _) ?_); with_reducible assumption) | go_keep)) | go_keep)
      clear hKz Kz
      (try simp only [Act.put, List.setIfInBounds_toArray, List.set_cons_zero, List.set_cons_succ, List.getElem_toArray, List.getElem_cons_succ, List.getElem_cons_zero])
    rotate_left 1
    focus
      go_simp
      refine Calls.mono (lawOf_is law_d0 _ (by omega) (by omega)) ?_
      rintro e w24 ⟨v, rfl, h, hb⟩
      obtain ⟨b24, A24, n24, c24, d24, B24, m24, k24, rfl, -, -, -, -, -⟩ := h.form
      have hE := EQ.of (p := true) h bq0
      have hBw := (show Below w23.heap.size w23 w24 from by first | exact hb | exact bundrew hb)
      have ra_24 := Lib.hid (ra_23.out.below hBw)
      have rb_24 := Lib.hid (rb_23.out.below hBw)
      have tb_24 := Lib.hid (tb_23.out.below hBw)
      have kt_24 := Lib.hid (kt_23.out.below hBw)
      have rx_24 := Lib.hid (rx_23.out.below hBw)
      have sol_24 := Lib.hid (sol_23.out.below hBw)
      have pv_24 := Lib.hid (pv_23.out.below hBw)
      have hf_24 := Lib.hid (hf_23.out.below hBw)
      have k6_24 := Lib.hid (k6_23.out.below hBw)
      have k8_24 := Lib.hid (k8_23.out.below hBw)
      have d8_24 := Lib.hid (d8_23.out.below hBw)
      have ss_24 := Lib.hid (ss_23.out.below hBw)
      have e1_24 := Lib.hid (e1_23.out.below hBw)
      have e2_24 := Lib.hid (e2_23.out.below hBw)
      have re_24 := Lib.hid (re_23.out.below hBw)
      have f1_24 := Lib.hid (f1_23.out.below hBw)
      have f2_24 := Lib.hid (hE)
      have HB_24 := Lib.hid (below_trans HB_23.out hBw)
      clear hBw hb ra_23 rb_23 tb_23 kt_23 rx_23 sol_23 pv_23 hf_23 k6_23 k8_23 d8_23 ss_23 e1_23 e2_23 re_23 f1_23 HB_23
      clear h hE
      obtain ⟨x240, x241, x242, x243, x244⟩ := k6_24.out.use4
      obtain ⟨y240, y241, y242, y243, y244⟩ := k8_24.out.use4
      clear x230 x231 x232 x233 x234 y230 y231 y232 y233 y234

      refine hKz.out _ _ ?_ (fun hHeld => ?_)
      · (try dsimp only); (first | (refine ⟨?_, ?_, ?_, ?_, ?_, ?_, ?_, ?_⟩ <;> (first | with_reducible assumption | ((with_reducible refine Eq.trans (cell_drew _ _) ?_); with_reducible assumption) | go_keep)) | go_keep)
      clear hKz Kz
      (try simp only [Act.put, List.setIfInBounds_toArray, List.set_cons_zero, List.set_cons_succ, List.getElem_toArray, List.getElem_cons_succ, List.getElem_cons_zero])
      refine wpAnyH_ready (rs := [15, 18]) (by kernel_rfl) (by simp) ?_
      refine AllReadyH.cons rfl (fun Kz hKz => ?_) (AllReadyH.cons rfl (fun Kz hKz => ?_) AllReadyH.nil)
      focus
        go_simp
        generalize hW : w24.alloc (.cells #[.bool b23, .slice A23 n23 c23, .bool d23, .slice B23 m23 k23, .bool b13, .slice A13 n13 c13, .bool d13, .slice B13 m13 k13] 27) = w25
        have hz_25 := Lib.hid (show w25.heap.size = w24.heap.size + 1 from by rw [← hW]; simp)
        have ra_25 := Lib.hid (hW ▸ ra_24.out.alloc_ _)
        have rb_25 := Lib.hid (hW ▸ rb_24.out.alloc_ _)
        have tb_25 := Lib.hid (hW ▸ tb_24.out.alloc_ _)
        have kt_25 := Lib.hid (hW ▸ kt_24.out.alloc_ _)
        have rx_25 := Lib.hid (hW ▸ rx_24.out.alloc_ _)
        have sol_25 := Lib.hid (hW ▸ sol_24.out.alloc_ _)
        have pv_25 := Lib.hid (hW ▸ pv_24.out.alloc_ _)
        have hf_25 := Lib.hid (hW ▸ hf_24.out.alloc_ _)
        have k6_25 := Lib.hid (hW ▸ k6_24.out.alloc_ _)
        have k8_25 := Lib.hid (hW ▸ k8_24.out.alloc_ _)
        have d8_25 := Lib.hid (hW ▸ d8_24.out.alloc_ _)
        have ss_25 := Lib.hid (hW ▸ ss_24.out.alloc_ _)
        have e1_25 := Lib.hid (hW ▸ e1_24.out.alloc_ _)
        have e2_25 := Lib.hid (hW ▸ e2_24.out.alloc_ _)
        have re_25 := Lib.hid (hW ▸ re_24.out.alloc_ _)
        have f1_25 := Lib.hid (hW ▸ f1_24.out.alloc_ _)
        have f2_25 := Lib.hid (hW ▸ f2_24.out.alloc_ _)
        have rf_25 : Hid (RowT true 1 w25 (.slice (some ⟨w24.heap.size, 0, none⟩) 2 2) 2 (twoR 1 (Rat.divInt 1 2))) := by rw [← hW]; exact row2 rfl f1_24.out hf_24.out
        have HB_25 := Lib.hid (show Below w.heap.size w w25 from hW ▸ halloc HB_24.out)
        clear hW ra_24 rb_24 tb_24 kt_24 rx_24 sol_24 pv_24 hf_24 k6_24 k8_24 d8_24 ss_24 e1_24 e2_24 re_24 f1_24 f2_24 HB_24
        obtain ⟨x250, x251, x252, x253, x254⟩ := k6_25.out.use4
        obtain ⟨y250, y251, y252, y253, y254⟩ := k8_25.out.use4
        clear x240 x241 x242 x243 x244 y240 y241 y242 y243 y244

        refine hKz.out _ _ ?_ (fun hHeld => ?_)
        · (try dsimp only); (first | (refine ⟨?_, ?_, ?_, ?_, ?_, ?_, ?_, ?_⟩ <;> (first | with_reducible assumption | ((with_reducible refine Eq.trans (cell_drew _ _) ?_); with_reducible assumption) | go_keep)) | go_keep)
        clear hKz Kz
        (try simp only [Act.put, List.setIfInBounds_toArray, List.set_cons_zero, List.set_cons_succ, List.getElem_toArray, List.getElem_cons_succ, List.getElem_cons_zero])
        refine wpAnyH_ready (rs := [18]) (by kernel_rfl) (by simp) ?_
        refine AllReadyH.cons rfl (fun Kz hKz => ?_) AllReadyH.nil
        go_simp
        generalize hW : w25.alloc (.cells #[.bool b24, .slice A24 n24 c24, .bool d24, .slice B24 m24 k24, .bool b13, .slice A13 n13 c13, .bool d13, .slice B13 m13 k13] 27) = w26
        have hz_26 := Lib.hid (show w26.heap.size = w25.heap.size + 1 from by rw [← hW]; simp)
        have ra_26 := Lib.hid (hW ▸ ra_25.out.alloc_ _)
        have rb_26 := Lib.hid (hW ▸ rb_25.out.alloc_ _)
        have tb_26 := Lib.hid (hW ▸ tb_25.out.alloc_ _)
        have kt_26 := Lib.hid (hW ▸ kt_25.out.alloc_ _)
        have rx_26 := Lib.hid (hW ▸ rx_25.out.alloc_ _)
        have sol_26 := Lib.hid (hW ▸ sol_25.out.alloc_ _)
        have pv_26 := Lib.hid (hW ▸ pv_25.out.alloc_ _)
        have hf_26 := Lib.hid (hW ▸ hf_25.out.alloc_ _)
        have k6_26 := Lib.hid (hW ▸ k6_25.out.alloc_ _)
        have k8_26 := Lib.hid (hW ▸ k8_25.out.alloc_ _)
        have d8_26 := Lib.hid (hW ▸ d8_25.out.alloc_ _)
        have ss_26 := Lib.hid (hW ▸ ss_25.out.alloc_ _)
        have e1_26 := Lib.hid (hW ▸ e1_25.out.alloc_ _)
        have e2_26 := Lib.hid (hW ▸ e2_25.out.alloc_ _)
        have re_26 := Lib.hid (hW ▸ re_25.out.alloc_ _)
        have f1_26 := Lib.hid (hW ▸ f1_25.out.alloc_ _)
        have f2_26 := Lib.hid (hW ▸ f2_25.out.alloc_ _)
        have rf_26 := Lib.hid (hW ▸ rf_25.out.alloc_ _)
        have rg_26 : Hid (RowT true 1 w26 (.slice (some ⟨w25.heap.size, 0, none⟩) 2 2) 2 (twoR 0 (Rat.divInt 1 2))) := by rw [← hW]; exact row2 rfl f2_25.out hf_25.out
        have HB_26 := Lib.hid (show Below w.heap.size w w26 from hW ▸ halloc HB_25.out)
        clear hW ra_25 rb_25 tb_25 kt_25 rx_25 sol_25 pv_25 hf_25 k6_25 k8_25 d8_25 ss_25 e1_25 e2_25 re_25 f1_25 f2_25 rf_25 HB_25
        obtain ⟨x260, x261, x262, x263, x264⟩ := k6_26.out.use4
        obtain ⟨y260, y261, y262, y263, y264⟩ := k8_26.out.use4
        clear x250 x251 x252 x253 x254 y250 y251 y252 y253 y254

        refine hKz.out _ _ ?_ (fun hHeld => ?_)
        · (try dsimp only); (first | (refine ⟨?_, ?_, ?_, ?_, ?_, ?_, ?_, ?_⟩ <;> (first | with_reducible assumption | ((with_reducible refine Eq.trans (cell_drew _ _) ?_); with_reducible assumption) | go_keep)) | go_keep)
        clear hKz Kz
        (try simp only [Act.put, List.setIfInBounds_toArray, List.set_cons_zero, List.set_cons_succ, List.getElem_toArray, List.getElem_cons_succ, List.getElem_cons_zero])
        refine wpAnyH_ready (rs := [19]) (by kernel_rfl) (by simp) ?_
        refine AllReadyH.cons rfl (fun Kz hKz => ?_) AllReadyH.nil
        go_simp
        generalize hW : w26.alloc (.cells #[.slice (some ⟨w24.heap.size, 0, none⟩) 2 2, .slice (some ⟨w25.heap.size, 0, none⟩) 2 2] 22) = w27
        have hz_27 := Lib.hid (show w27.heap.size = w26.heap.size + 1 from by rw [← hW]; simp)
        have ra_27 := Lib.hid (hW ▸ ra_26.out.alloc_ _)
        have rb_27 := Lib.hid (hW ▸ rb_26.out.alloc_ _)
        have tb_27 := Lib.hid (hW ▸ tb_26.out.alloc_ _)
        have kt_27 := Lib.hid (hW ▸ kt_26.out.alloc_ _)
        have rx_27 := Lib.hid (hW ▸ rx_26.out.alloc_ _)
        have sol_27 := Lib.hid (hW ▸ sol_26.out.alloc_ _)
        have pv_27 := Lib.hid (hW ▸ pv_26.out.alloc_ _)
        have hf_27 := Lib.hid (hW ▸ hf_26.out.alloc_ _)
        have k6_27 := Lib.hid (hW ▸ k6_26.out.alloc_ _)
        have k8_27 := Lib.hid (hW ▸ k8_26.out.alloc_ _)
        have d8_27 := Lib.hid (hW ▸ d8_26.out.alloc_ _)
        have ss_27 := Lib.hid (hW ▸ ss_26.out.alloc_ _)
        have e1_27 := Lib.hid (hW ▸ e1_26.out.alloc_ _)
        have e2_27 := Lib.hid (hW ▸ e2_26.out.alloc_ _)
        have re_27 := Lib.hid (hW ▸ re_26.out.alloc_ _)
        have f1_27 := Lib.hid (hW ▸ f1_26.out.alloc_ _)
        have f2_27 := Lib.hid (hW ▸ f2_26.out.alloc_ _)
        have rf_27 := Lib.hid (hW ▸ rf_26.out.alloc_ _)
        have rg_27 := Lib.hid (hW ▸ rg_26.out.alloc_ _)
        have tt_27 : Hid (TabQ true 1 w27 (.slice (some ⟨w26.heap.size, 0, none⟩) 2 2) 2 (fun _ => 2) (twoT (twoR 1 (Rat.divInt 1 2)) (twoR 0 (Rat.divInt 1 2)))) := by rw [← hW]; exact tab2 rfl rf_26.out.rowQ rg_26.out.rowQ
        have HB_27 := Lib.hid (show Below w.heap.size w w27 from hW ▸ halloc HB_26.out)
        clear hW ra_26 rb_26 tb_26 kt_26 rx_26 sol_26 pv_26 hf_26 k6_26 k8_26 d8_26 ss_26 e1_26 e2_26 re_26 f1_26 f2_26 rf_26 rg_26 HB_26
        obtain ⟨x270, x271, x272, x273, x274⟩ := k6_27.out.use4
        obtain ⟨y270, y271, y272, y273, y274⟩ := k8_27.out.use4
        clear x260 x261 x262 x263 x264 y260 y261 y262 y263 y264

        refine hKz.out _ _ ?_ (fun hHeld => ?_)
        · (try dsimp only); (first | (refine ⟨?_, ?_, ?_, ?_, ?_, ?_, ?_, ?_⟩ <;> (first | with_reducible assumption | ((with_reducible refine Eq.trans (cell_drew _ _) ?_); with_reducible assumption) | go_keep)) | go_keep)
        clear hKz Kz
        (try simp only [Act.put, List.setIfInBounds_toArray, List.set_cons_zero, List.set_cons_succ, List.getElem_toArray, List.getElem_cons_succ, List.getElem_cons_zero])
        refine wpAnyH_ready (rs := [20]) (by kernel_rfl) (by simp) ?_
        refine AllReadyH.cons rfl (fun Kz hKz => ?_) AllReadyH.nil
        go_simp
        refine Calls.mono (rtables pv_27.out tt_27.out (fun _ _ => rfl) (fun _ _ _ _ => rfl) (by omega)) ?_
        rintro e w28 ⟨rfl, hb⟩
        have hBw := (show Below w27.heap.size w27 w28 from by first | exact hb | exact bundrew hb)
        have ra_28 := Lib.hid (ra_27.out.below hBw)
        have rb_28 := Lib.hid (rb_27.out.below hBw)
        have tb_28 := Lib.hid (tb_27.out.below hBw)
        have kt_28 := Lib.hid (kt_27.out.below hBw)
        have rx_28 := Lib.hid (rx_27.out.below hBw)
        have sol_28 := Lib.hid (sol_27.out.below hBw)
        have pv_28 := Lib.hid (pv_27.out.below hBw)
        have hf_28 := Lib.hid (hf_27.out.below hBw)
        have k6_28 := Lib.hid (k6_27.out.below hBw)
        have k8_28 := Lib.hid (k8_27.out.below hBw)
        have d8_28 := Lib.hid (d8_27.out.below hBw)
        have ss_28 := Lib.hid (ss_27.out.below hBw)
        have e1_28 := Lib.hid (e1_27.out.below hBw)
        have e2_28 := Lib.hid (e2_27.out.below hBw)
        have re_28 := Lib.hid (re_27.out.below hBw)
        have f1_28 := Lib.hid (f1_27.out.below hBw)
        have f2_28 := Lib.hid (f2_27.out.below hBw)
        have rf_28 := Lib.hid (rf_27.out.below hBw)
        have rg_28 := Lib.hid (rg_27.out.below hBw)
        have tt_28 := Lib.hid (tt_27.out.below hBw)
        have HB_28 := Lib.hid (below_trans HB_27.out hBw)
        clear hBw hb ra_27 rb_27 tb_27 kt_27 rx_27 sol_27 pv_27 hf_27 k6_27 k8_27 d8_27 ss_27 e1_27 e2_27 re_27 f1_27 f2_27 rf_27 rg_27 tt_27 HB_27
        obtain ⟨x280, x281, x282, x283, x284⟩ := k6_28.out.use4
        obtain ⟨y280, y281, y282, y283, y284⟩ := k8_28.out.use4
        clear x270 x271 x272 x273 x274 y270 y271 y272 y273 y274

        refine hKz.out _ _ ?_ (fun hHeld => ?_)
        · (try dsimp only); (first | (refine ⟨?_, ?_, ?_, ?_, ?_, ?_, ?_, ?_⟩ <;> (first | with_reducible assumption | ((with_reducible refine Eq.trans (cell_drew _ _) ?_); with_reducible assumption) | go_keep)) | go_keep)
        clear hKz Kz
        (try simp only [Act.put, List.setIfInBounds_toArray, List.set_cons_zero, List.set_cons_succ, List.getElem_toArray, List.getElem_cons_succ, List.getElem_cons_zero])
      rotate_left 1
      focus
        go_simp
        generalize hW : w24.alloc (.cells #[.bool b24, .slice A24 n24 c24, .bool d24, .slice B24 m24 k24, .bool b13, .slice A13 n13 c13, .bool d13, .slice B13 m13 k13] 27) = w25
        have hz_25 := Lib.hid (show w25.heap.size = w24.heap.size + 1 from by rw [← hW]; simp)
        have ra_25 := Lib.hid (hW ▸ ra_24.out.alloc_ _)
        have rb_25 := Lib.hid (hW ▸ rb_24.out.alloc_ _)
        have tb_25 := Lib.hid (hW ▸ tb_24.out.alloc_ _)
        have kt_25 := Lib.hid (hW ▸ kt_24.out.alloc_ _)
        have rx_25 := Lib.hid (hW ▸ rx_24.out.alloc_ _)
        have sol_25 := Lib.hid (hW ▸ sol_24.out.alloc_ _)
        have pv_25 := Lib.hid (hW ▸ pv_24.out.alloc_ _)
        have hf_25 := Lib.hid (hW ▸ hf_24.out.alloc_ _)
        have k6_25 := Lib.hid (hW ▸ k6_24.out.alloc_ _)
        have k8_25 := Lib.hid (hW ▸ k8_24.out.alloc_ _)
        have d8_25 := Lib.hid (hW ▸ d8_24.out.alloc_ _)
        have ss_25 := Lib.hid (hW ▸ ss_24.out.alloc_ _)
        have e1_25 := Lib.hid (hW ▸ e1_24.out.alloc_ _)
        have e2_25 := Lib.hid (hW ▸ e2_24.out.alloc_ _)
        have re_25 := Lib.hid (hW ▸ re_24.out.alloc_ _)
        have f1_25 := Lib.hid (hW ▸ f1_24.out.alloc_ _)
        have f2_25 := Lib.hid (hW ▸ f2_24.out.alloc_ _)
        have rg_25 : Hid (RowT true 1 w25 (.slice (some ⟨w24.heap.size, 0, none⟩) 2 2) 2 (twoR 0 (Rat.divInt 1 2))) := by rw [← hW]; exact row2 rfl f2_24.out hf_24.out
        have HB_25 := Lib.hid (show Below w.heap.size w w25 from hW ▸ halloc HB_24.out)
        clear hW ra_24 rb_24 tb_24 kt_24 rx_24 sol_24 pv_24 hf_24 k6_24 k8_24 d8_24 ss_24 e1_24 e2_24 re_24 f1_24 f2_24 HB_24
        obtain ⟨x250, x251, x252, x253, x254⟩ := k6_25.out.use4
        obtain ⟨y250, y251, y252, y253, y254⟩ := k8_25.out.use4
        clear x240 x241 x242 x243 x244 y240 y241 y242 y243 y244

        refine hKz.out _ _ ?_ (fun hHeld => ?_)
        · (try dsimp only); (first | (refine ⟨?_, ?_, ?_, ?_, ?_, ?_, ?_, ?_⟩ <;> (first | with_reducible assumption | ((with_reducible refine Eq.trans (cell_drew _ _) ?_); with_reducible assumption) | go_keep)) | go_keep)
        clear hKz Kz
        (try simp only [Act.put, List.setIfInBounds_toArray, List.set_cons_zero, List.set_cons_succ, List.getElem_toArray, List.getElem_cons_succ, List.getElem_cons_zero])
        refine wpAnyH_ready (rs := [15]) (by kernel_rfl) (by simp) ?_
        refine AllReadyH.cons rfl (fun Kz hKz => ?_) AllReadyH.nil
        go_simp
        generalize hW : w25.alloc (.cells #[.bool b23, .slice A23 n23 c23, .bool d23, .slice B23 m23 k23, .bool b13, .slice A13 n13 c13, .bool d13, .slice B13 m13 k13] 27) = w26
        have hz_26 := Lib.hid (show w26.heap.size = w25.heap.size + 1 from by rw [← hW]; simp)
        have ra_26 := Lib.hid (hW ▸ ra_25.out.alloc_ _)
        have rb_26 := Lib.hid (hW ▸ rb_25.out.alloc_ _)
        have tb_26 := Lib.hid (hW ▸ tb_25.out.alloc_ _)
        have kt_26 := Lib.hid (hW ▸ kt_25.out.alloc_ _)
        have rx_26 := Lib.hid (hW ▸ rx_25.out.alloc_ _)
        have sol_26 := Lib.hid (hW ▸ sol_25.out.alloc_ _)
        have pv_26 := Lib.hid (hW ▸ pv_25.out.alloc_ _)
        have hf_26 := Lib.hid (hW ▸ hf_25.out.alloc_ _)
        have k6_26 := Lib.hid (hW ▸ k6_25.out.alloc_ _)
        have k8_26 := Lib.hid (hW ▸ k8_25.out.alloc_ _)
        have d8_26 := Lib.hid (hW ▸ d8_25.out.alloc_ _)
        have ss_26 := Lib.hid (hW ▸ ss_25.out.alloc_ _)
        have e1_26 := Lib.hid (hW ▸ e1_25.out.alloc_ _)
        have e2_26 := Lib.hid (hW ▸ e2_25.out.alloc_ _)
        have re_26 := Lib.hid (hW ▸ re_25.out.alloc_ _)
        have f1_26 := Lib.hid (hW ▸ f1_25.out.alloc_ _)
        have f2_26 := Lib.hid (hW ▸ f2_25.out.alloc_ _)
        have rg_26 := Lib.hid (hW ▸ rg_25.out.alloc_ _)
        have rf_26 : Hid (RowT true 1 w26 (.slice (some ⟨w25.heap.size, 0, none⟩) 2 2) 2 (twoR 1 (Rat.divInt 1 2))) := by rw [← hW]; exact row2 rfl f1_25.out hf_25.out
        have HB_26 := Lib.hid (show Below w.heap.size w w26 from hW ▸ halloc HB_25.out)
        clear hW ra_25 rb_25 tb_25 kt_25 rx_25 sol_25 pv_25 hf_25 k6_25 k8_25 d8_25 ss_25 e1_25 e2_25 re_25 f1_25 f2_25 rg_25 HB_25
        obtain ⟨x260, x261, x262, x263, x264⟩ := k6_26.out.use4
        obtain ⟨y260, y261, y262, y263, y264⟩ := k8_26.out.use4
        clear x250 x251 x252 x253 x254 y250 y251 y252 y253 y254

        refine hKz.out _ _ ?_ (fun hHeld => ?_)
        · (try dsimp only); (first | (refine ⟨?_, ?_, ?_, ?_, ?_, ?_, ?_, ?_⟩ <;> (first | with_reducible assumption | ((with_reducible refine Eq.trans (cell_drew _ _) ?_); with_reducible assumption) | go_keep)) | go_keep)
        clear hKz Kz
        (try simp only [Act.put, List.setIfInBounds_toArray, List.set_cons_zero, List.set_cons_succ, List.getElem_toArray, List.getElem_cons_succ, List.getElem_cons_zero])
        refine wpAnyH_ready (rs := [19]) (by kernel_rfl) (by simp) ?_
        refine AllReadyH.cons rfl (fun Kz hKz => ?_) AllReadyH.nil
        go_simp
        generalize hW : w26.alloc (.cells #[.slice (some ⟨w25.heap.size, 0, none⟩) 2 2, .slice (some ⟨w24.heap.size, 0, none⟩) 2 2] 22) = w27
        have hz_27 := Lib.hid (show w27.heap.size = w26.heap.size + 1 from by rw [← hW]; simp)
        have ra_27 := Lib.hid (hW ▸ ra_26.out.alloc_ _)
        have rb_27 := Lib.hid (hW ▸ rb_26.out.alloc_ _)
        have tb_27 := Lib.hid (hW ▸ tb_26.out.alloc_ _)
        have kt_27 := Lib.hid (hW ▸ kt_26.out.alloc_ _)
        have rx_27 := Lib.hid (hW ▸ rx_26.out.alloc_ _)
        have sol_27 := Lib.hid (hW ▸ sol_26.out.alloc_ _)
        have pv_27 := Lib.hid (hW ▸ pv_26.out.alloc_ _)
        have hf_27 := Lib.hid (hW ▸ hf_26.out.alloc_ _)
        have k6_27 := Lib.hid (hW ▸ k6_26.out.alloc_ _)
        have k8_27 := Lib.hid (hW ▸ k8_26.out.alloc_ _)
        have d8_27 := Lib.hid (hW ▸ d8_26.out.alloc_ _)
        have ss_27 := Lib.hid (hW ▸ ss_26.out.alloc_ _)
        have e1_27 := Lib.hid (hW ▸ e1_26.out.alloc_ _)
        have e2_27 := Lib.hid (hW ▸ e2_26.out.alloc_ _)
        have re_27 := Lib.hid (hW ▸ re_26.out.alloc_ _)
        have f1_27 := Lib.hid (hW ▸ f1_26.out.alloc_ _)
        have f2_27 := Lib.hid (hW ▸ f2_26.out.alloc_ _)
        have rg_27 := Lib.hid (hW ▸ rg_26.out.alloc_ _)
        have rf_27 := Lib.hid (hW ▸ rf_26.out.alloc_ _)
        have tt_27 : Hid (TabQ true 1 w27 (.slice (some ⟨w26.heap.size, 0, none⟩) 2 2) 2 (fun _ => 2) (twoT (twoR 1 (Rat.divInt 1 2)) (twoR 0 (Rat.divInt 1 2)))) := by rw [← hW]; exact tab2 rfl rf_26.out.rowQ rg_26.out.rowQ
        have HB_27 := Lib.hid (show Below w.heap.size w w27 from hW ▸ halloc HB_26.out)
        clear hW ra_26 rb_26 tb_26 kt_26 rx_26 sol_26 pv_26 hf_26 k6_26 k8_26 d8_26 ss_26 e1_26 e2_26 re_26 f1_26 f2_26 rg_26 rf_26 HB_26
        obtain ⟨x270, x271, x272, x273, x274⟩ := k6_27.out.use4
        obtain ⟨y270, y271, y272, y273, y274⟩ := k8_27.out.use4
        clear x260 x261 x262 x263 x264 y260 y261 y262 y263 y264

        refine hKz.out _ _ ?_ (fun hHeld => ?_)
        · (try dsimp only); (first | (refine ⟨?_, ?_, ?_, ?_, ?_, ?_, ?_, ?_⟩ <;> (first | with_reducible assumption | ((with_reducible refine Eq.trans (cell_drew _ _) ?_); with_reducible assumption) | go_keep)) | go_keep)
        clear hKz Kz
        (try simp only [Act.put, List.setIfInBounds_toArray, List.set_cons_zero, List.set_cons_succ, List.getElem_toArray, List.getElem_cons_succ, List.getElem_cons_zero])
        refine wpAnyH_ready (rs := [20]) (by kernel_rfl) (by simp) ?_
        refine AllReadyH.cons rfl (fun Kz hKz => ?_) AllReadyH.nil
        go_simp
        refine Calls.mono (rtables pv_27.out tt_27.out (fun _ _ => rfl) (fun _ _ _ _ => rfl) (by omega)) ?_
        rintro e w28 ⟨rfl, hb⟩
        have hBw := (show Below w27.heap.size w27 w28 from by first | exact hb | exact bundrew hb)
        have ra_28 := Lib.hid (ra_27.out.below hBw)
        have rb_28 := Lib.hid (rb_27.out.below hBw)
        have tb_28 := Lib.hid (tb_27.out.below hBw)
        have kt_28 := Lib.hid (kt_27.out.below hBw)
        have rx_28 := Lib.hid (rx_27.out.below hBw)
        have sol_28 := Lib.hid (sol_27.out.below hBw)
        have pv_28 := Lib.hid (pv_27.out.below hBw)
        have hf_28 := Lib.hid (hf_27.out.below hBw)
        have k6_28 := Lib.hid (k6_27.out.below hBw)
        have k8_28 := Lib.hid (k8_27.out.below hBw)
        have d8_28 := Lib.hid (d8_27.out.below hBw)
        have ss_28 := Lib.hid (ss_27.out.below hBw)
        have e1_28 := Lib.hid (e1_27.out.below hBw)
        have e2_28 := Lib.hid (e2_27.out.below hBw)
        have re_28 := Lib.hid (re_27.out.below hBw)
        have f1_28 := Lib.hid (f1_27.out.below hBw)
        have f2_28 := Lib.hid (f2_27.out.below hBw)
        have rg_28 := Lib.hid (rg_27.out.below hBw)
        have rf_28 := Lib.hid (rf_27.out.below hBw)
        have tt_28 := Lib.hid (tt_27.out.below hBw)
        have HB_28 := Lib.hid (below_trans HB_27.out hBw)
        clear hBw hb ra_27 rb_27 tb_27 kt_27 rx_27 sol_27 pv_27 hf_27 k6_27 k8_27 d8_27 ss_27 e1_27 e2_27 re_27 f1_27 f2_27 rg_27 rf_27 tt_27 HB_27
        obtain ⟨x280, x281, x282, x283, x284⟩ := k6_28.out.use4
        obtain ⟨y280, y281, y282, y283, y284⟩ := k8_28.out.use4
        clear x270 x271 x272 x273 x274 y270 y271 y272 y273 y274

        refine hKz.out _ _ ?_ (fun hHeld => ?_)
        · (try dsimp only); (first | (refine ⟨?_, ?_, ?_, ?_, ?_, ?_, ?_, ?_⟩ <;> (first | with_reducible assumption | ((with_reducible refine Eq.trans (cell_drew _ _) ?_); with_reducible assumption) | go_keep)) | go_keep)
        clear hKz Kz
        (try simp only [Act.put, List.setIfInBounds_toArray, List.set_cons_zero, List.set_cons_succ, List.getElem_toArray, List.getElem_cons_succ, List.getElem_cons_zero])
      rotate_left 1
    rotate_left 2
  all_goals
    refine wpAnyH_take (i := 21) (v := ?_) rfl (by kernel_rfl) (by kernel_rfl) (by kernel_rfl) (fun _ _ _ h => h) (Or.inl ⟨by kernel_rfl, ?_⟩) (by assumption) ?_
    rotate_left
    · intro w hSw; (try dsimp only at hSw); go_simp <;> (try with_reducible rfl)
    (try simp only [Act.put, List.setIfInBounds_toArray, List.set_cons_zero, List.set_cons_succ, List.getElem_toArray, List.getElem_cons_succ, List.getElem_cons_zero])
    refine wpAnyH_take (i := 22) (v := ?_) rfl (by kernel_rfl) (by kernel_rfl) (by kernel_rfl) (fun _ _ _ h => h) (Or.inl ⟨by kernel_rfl, ?_⟩) (by assumption) ?_
    rotate_left
    · intro w hSw; (try dsimp only at hSw); go_simp <;> (try with_reducible rfl)
    (try simp only [Act.put, List.setIfInBounds_toArray, List.set_cons_zero, List.set_cons_succ, List.getElem_toArray, List.getElem_cons_succ, List.getElem_cons_zero])
    refine wpAnyH_take (i := 23) (v := ?_) rfl (by kernel_rfl) (by kernel_rfl) (by kernel_rfl) (fun _ _ _ h => h) (Or.inl ⟨by kernel_rfl, ?_⟩) (by assumption) ?_
    rotate_left
    · intro w hSw; (try dsimp only at hSw); go_simp <;> (try with_reducible rfl)
    (try simp only [Act.put, List.setIfInBounds_toArray, List.set_cons_zero, List.set_cons_succ, List.getElem_toArray, List.getElem_cons_succ, List.getElem_cons_zero])
    refine wpAnyH_take (i := 24) (v := ?_) rfl (by kernel_rfl) (by kernel_rfl) (by kernel_rfl) (fun _ _ _ h => h) (Or.inl ⟨by kernel_rfl, ?_⟩) (by assumption) ?_
    rotate_left
    · intro w hSw; (try dsimp only at hSw); go_simp <;> (try with_reducible rfl)
    (try simp only [Act.put, List.setIfInBounds_toArray, List.set_cons_zero, List.set_cons_succ, List.getElem_toArray, List.getElem_cons_succ, List.getElem_cons_zero])
    refine wpAnyH_take (i := 25) (v := ?_) rfl (by kernel_rfl) (by kernel_rfl) (by kernel_rfl) (fun _ _ _ h => h) (Or.inl ⟨by kernel_rfl, ?_⟩) (by assumption) ?_
    rotate_left
    · intro w hSw; (try dsimp only at hSw); go_simp <;> (try with_reducible rfl)
    (try simp only [Act.put, List.setIfInBounds_toArray, List.set_cons_zero, List.set_cons_succ, List.getElem_toArray, List.getElem_cons_succ, List.getElem_cons_zero])
    refine wpAnyH_take (i := 26) (v := ?_) rfl (by kernel_rfl) (by kernel_rfl) (by kernel_rfl) (fun _ _ _ h => h) (Or.inl ⟨by kernel_rfl, ?_⟩) (by assumption) ?_
    rotate_left
    · intro w hSw; (try dsimp only at hSw); go_simp <;> (try with_reducible rfl)
    (try simp only [Act.put, List.setIfInBounds_toArray, List.set_cons_zero, List.set_cons_succ, List.getElem_toArray, List.getElem_cons_succ, List.getElem_cons_zero])
    refine wpAnyH_ready (rs := [27]) (by kernel_rfl) (by simp) ?_
    refine AllReadyH.cons rfl (fun Kz hKz => ?_) AllReadyH.nil
    go_simp
    refine Calls.mono (lawOf_is law_d3 _ (by omega) (by omega)) ?_
    rintro e w29 ⟨v, rfl, h, hb⟩
    obtain ⟨b29, A29, n29, c29, d29, B29, m29, k29, rfl, -, -, -, -, -⟩ := h.form
    have hE := EQ.of (p := true) h bq3
    have hBw := (show Below w28.heap.size w28 w29 from by first | exact hb | exact bundrew hb)
    have d8_29 := Lib.hid (d8_28.out.below hBw)
    have e1_29 := Lib.hid (e1_28.out.below hBw)
    have e2_29 := Lib.hid (e2_28.out.below hBw)
    have f1_29 := Lib.hid (f1_28.out.below hBw)
    have f2_29 := Lib.hid (f2_28.out.below hBw)
    have hf_29 := Lib.hid (hf_28.out.below hBw)
    have k6_29 := Lib.hid (k6_28.out.below hBw)
    have k8_29 := Lib.hid (k8_28.out.below hBw)
    have kt_29 := Lib.hid (kt_28.out.below hBw)
    have pv_29 := Lib.hid (pv_28.out.below hBw)
    have ra_29 := Lib.hid (ra_28.out.below hBw)
    have rb_29 := Lib.hid (rb_28.out.below hBw)
    have re_29 := Lib.hid (re_28.out.below hBw)
    have rf_29 := Lib.hid (rf_28.out.below hBw)
    have rg_29 := Lib.hid (rg_28.out.below hBw)
    have rx_29 := Lib.hid (rx_28.out.below hBw)
    have sol_29 := Lib.hid (sol_28.out.below hBw)
    have ss_29 := Lib.hid (ss_28.out.below hBw)
    have tb_29 := Lib.hid (tb_28.out.below hBw)
    have tt_29 := Lib.hid (tt_28.out.below hBw)
    have g3_29 := Lib.hid (hE)
    have HB_29 := Lib.hid (below_trans HB_28.out hBw)
    clear hBw hb d8_28 e1_28 e2_28 f1_28 f2_28 hf_28 k6_28 k8_28 kt_28 pv_28 ra_28 rb_28 re_28 rf_28 rg_28 rx_28 sol_28 ss_28 tb_28 tt_28 HB_28
    clear h hE
    obtain ⟨x290, x291, x292, x293, x294⟩ := k6_29.out.use4
    obtain ⟨y290, y291, y292, y293, y294⟩ := k8_29.out.use4
    clear x280 x281 x282 x283 x284 y280 y281 y282 y283 y284

    refine hKz.out _ _ ?_ (fun hHeld => ?_)
    · (try dsimp only); (first | (refine ⟨?_, ?_, ?_, ?_, ?_, ?_, ?_, ?_⟩ <;> (first | with_reducible assumption | ((with_reducible refine Eq.trans (cell_drew _ _) ?_); with_reducible assumption) | go_keep)) | go_keep)
    clear hKz Kz
    (try simp only [Act.put, List.setIfInBounds_toArray, List.set_cons_zero, List.set_cons_succ, List.getElem_toArray, List.getElem_cons_succ, List.getElem_cons_zero])
    refine wpAnyH_ready (rs := [28]) (by kernel_rfl) (by simp) ?_
    refine AllReadyH.cons rfl (fun Kz hKz => ?_) AllReadyH.nil
    go_simp
    refine Calls.mono (rat_same (d8_29.out.1 rfl).1 (g3_29.out.1 rfl).1 bq3 (by omega)) ?_
    rintro e w30 ⟨rfl, hb⟩
    have hBw := (show Below w29.heap.size w29 w30 from by first | exact hb | exact bundrew hb)
    have d8_30 := Lib.hid (d8_29.out.below hBw)
    have e1_30 := Lib.hid (e1_29.out.below hBw)
    have e2_30 := Lib.hid (e2_29.out.below hBw)
    have f1_30 := Lib.hid (f1_29.out.below hBw)
    have f2_30 := Lib.hid (f2_29.out.below hBw)
    have hf_30 := Lib.hid (hf_29.out.below hBw)
    have k6_30 := Lib.hid (k6_29.out.below hBw)
    have k8_30 := Lib.hid (k8_29.out.below hBw)
    have kt_30 := Lib.hid (kt_29.out.below hBw)
    have pv_30 := Lib.hid (pv_29.out.below hBw)
    have ra_30 := Lib.hid (ra_29.out.below hBw)
    have rb_30 := Lib.hid (rb_29.out.below hBw)
    have re_30 := Lib.hid (re_29.out.below hBw)
    have rf_30 := Lib.hid (rf_29.out.below hBw)
    have rg_30 := Lib.hid (rg_29.out.below hBw)
    have rx_30 := Lib.hid (rx_29.out.below hBw)
    have sol_30 := Lib.hid (sol_29.out.below hBw)
    have ss_30 := Lib.hid (ss_29.out.below hBw)
    have tb_30 := Lib.hid (tb_29.out.below hBw)
    have tt_30 := Lib.hid (tt_29.out.below hBw)
    have g3_30 := Lib.hid (g3_29.out.below hBw)
    have HB_30 := Lib.hid (below_trans HB_29.out hBw)
    clear hBw hb d8_29 e1_29 e2_29 f1_29 f2_29 hf_29 k6_29 k8_29 kt_29 pv_29 ra_29 rb_29 re_29 rf_29 rg_29 rx_29 sol_29 ss_29 tb_29 tt_29 g3_29 HB_29
    obtain ⟨x300, x301, x302, x303, x304⟩ := k6_30.out.use4
    obtain ⟨y300, y301, y302, y303, y304⟩ := k8_30.out.use4
    clear x290 x291 x292 x293 x294 y290 y291 y292 y293 y294

    refine hKz.out _ _ ?_ (fun hHeld => ?_)
    · (try dsimp only); (first | (refine ⟨?_, ?_, ?_, ?_, ?_, ?_, ?_, ?_⟩ <;> (first | with_reducible assumption | ((with_reducible refine Eq.trans (cell_drew _ _) ?_); with_reducible assumption) | go_keep)) | go_keep)
    clear hKz Kz
    (try simp only [Act.put, List.setIfInBounds_toArray, List.set_cons_zero, List.set_cons_succ, List.getElem_toArray, List.getElem_cons_succ, List.getElem_cons_zero])
    refine wpAnyH_take (i := 29) (v := ?_) rfl (by kernel_rfl) (by kernel_rfl) (by kernel_rfl) (fun _ _ _ h => h) (Or.inl ⟨by kernel_rfl, ?_⟩) (by assumption) ?_
    rotate_left
    · intro w hSw; (try dsimp only at hSw); go_simp <;> (try with_reducible rfl)
    (try simp only [Act.put, List.setIfInBounds_toArray, List.set_cons_zero, List.set_cons_succ, List.getElem_toArray, List.getElem_cons_succ, List.getElem_cons_zero])
    refine wpAnyH_take (i := 30) (v := ?_) rfl (by kernel_rfl) (by kernel_rfl) (by kernel_rfl) (fun _ _ _ h => h) (Or.inl ⟨by kernel_rfl, ?_⟩) (by assumption) ?_
    rotate_left
    · intro w hSw; (try dsimp only at hSw); go_simp <;> (try with_reducible rfl)
    (try simp only [Act.put, List.setIfInBounds_toArray, List.set_cons_zero, List.set_cons_succ, List.getElem_toArray, List.getElem_cons_succ, List.getElem_cons_zero])
    refine wpAnyH_take (i := 31) (v := ?_) rfl (by kernel_rfl) (by kernel_rfl) (by kernel_rfl) (fun _ _ _ h => h) (Or.inl ⟨by kernel_rfl, ?_⟩) (by assumption) ?_
    rotate_left
    · intro w hSw; (try dsimp only at hSw); go_simp <;> (try with_reducible rfl)
    (try simp only [Act.put, List.setIfInBounds_toArray, List.set_cons_zero, List.set_cons_succ, List.getElem_toArray, List.getElem_cons_succ, List.getElem_cons_zero])
    refine wpAnyH_take (i := 32) (v := ?_) rfl (by kernel_rfl) (by kernel_rfl) (by kernel_rfl) (fun _ _ _ h => h) (Or.inl ⟨by kernel_rfl, ?_⟩) (by assumption) ?_
    rotate_left
    · intro w hSw; (try dsimp only at hSw); go_simp <;> (try with_reducible rfl)
    (try simp only [Act.put, List.setIfInBounds_toArray, List.set_cons_zero, List.set_cons_succ, List.getElem_toArray, List.getElem_cons_succ, List.getElem_cons_zero])
    refine wpAnyH_take (i := 33) (v := ?_) rfl (by kernel_rfl) (by kernel_rfl) (by kernel_rfl) (fun _ _ _ h => h) (Or.inl ⟨by kernel_rfl, ?_⟩) (by assumption) ?_
    rotate_left
    · intro w hSw; (try dsimp only at hSw); go_simp <;> (try with_reducible rfl)
    (try simp only [Act.put, List.setIfInBounds_toArray, List.set_cons_zero, List.set_cons_succ, List.getElem_toArray, List.getElem_cons_succ, List.getElem_cons_zero])
    refine wpAnyH_take (i := 34) (v := ?_) rfl (by kernel_rfl) (by kernel_rfl) (by kernel_rfl) (fun _ _ _ h => h) (Or.inl ⟨by kernel_rfl, ?_⟩) (by assumption) ?_
    rotate_left
    · intro w hSw; (try dsimp only at hSw); go_simp <;> (try with_reducible rfl)
    (try simp only [Act.put, List.setIfInBounds_toArray, List.set_cons_zero, List.set_cons_succ, List.getElem_toArray, List.getElem_cons_succ, List.getElem_cons_zero])
    refine wpAnyH_ready (rs := [35]) (by kernel_rfl) (by simp) ?_
    refine AllReadyH.cons rfl (fun Kz hKz => ?_) AllReadyH.nil
    go_simp
    refine Calls.mono (lawOf_is law_d0 _ (by omega) (by omega)) ?_
    rintro e w31 ⟨v, rfl, h, hb⟩
    obtain ⟨b31, A31, n31, c31, d31, B31, m31, k31, rfl, -, -, -, -, -⟩ := h.form
    have hE := EQ.of (p := true) h bq0
    have hBw := (show Below w30.heap.size w30 w31 from by first | exact hb | exact bundrew hb)
    have d8_31 := Lib.hid (d8_30.out.below hBw)
    have e1_31 := Lib.hid (e1_30.out.below hBw)
    have e2_31 := Lib.hid (e2_30.out.below hBw)
    have f1_31 := Lib.hid (f1_30.out.below hBw)
    have f2_31 := Lib.hid (f2_30.out.below hBw)
    have hf_31 := Lib.hid (hf_30.out.below hBw)
    have k6_31 := Lib.hid (k6_30.out.below hBw)
    have k8_31 := Lib.hid (k8_30.out.below hBw)
    have kt_31 := Lib.hid (kt_30.out.below hBw)
    have pv_31 := Lib.hid (pv_30.out.below hBw)
    have ra_31 := Lib.hid (ra_30.out.below hBw)
    have rb_31 := Lib.hid (rb_30.out.below hBw)
    have re_31 := Lib.hid (re_30.out.below hBw)
    have rf_31 := Lib.hid (rf_30.out.below hBw)
    have rg_31 := Lib.hid (rg_30.out.below hBw)
    have rx_31 := Lib.hid (rx_30.out.below hBw)
    have sol_31 := Lib.hid (sol_30.out.below hBw)
    have ss_31 := Lib.hid (ss_30.out.below hBw)
    have tb_31 := Lib.hid (tb_30.out.below hBw)
    have tt_31 := Lib.hid (tt_30.out.below hBw)
    have g3_31 := Lib.hid (g3_30.out.below hBw)
    have h0_31 := Lib.hid (hE)
    have HB_31 := Lib.hid (below_trans HB_30.out hBw)
    clear hBw hb d8_30 e1_30 e2_30 f1_30 f2_30 hf_30 k6_30 k8_30 kt_30 pv_30 ra_30 rb_30 re_30 rf_30 rg_30 rx_30 sol_30 ss_30 tb_30 tt_30 g3_30 HB_30
    clear h hE
    obtain ⟨x310, x311, x312, x313, x314⟩ := k6_31.out.use4
    obtain ⟨y310, y311, y312, y313, y314⟩ := k8_31.out.use4
    clear x300 x301 x302 x303 x304 y300 y301 y302 y303 y304

    refine hKz.out _ _ ?_ (fun hHeld => ?_)
    · (try dsimp only); (first | (refine ⟨?_, ?_, ?_, ?_, ?_, ?_, ?_, ?_⟩ <;> (first | with_reducible assumption | ((with_reducible refine Eq.trans (cell_drew _ _) ?_); with_reducible assumption) | go_keep)) | go_keep)
    clear hKz Kz
    (try simp only [Act.put, List.setIfInBounds_toArray, List.set_cons_zero, List.set_cons_succ, List.getElem_toArray, List.getElem_cons_succ, List.getElem_cons_zero])
    refine wpAnyH_ready (rs := [36]) (by kernel_rfl) (by simp) ?_
    refine AllReadyH.cons rfl (fun Kz hKz => ?_) AllReadyH.nil
    go_simp
    refine Calls.mono (lawOf_is law_dm1 _ (by omega) (by omega)) ?_
    rintro e w32 ⟨v, rfl, h, hb⟩
    obtain ⟨b32, A32, n32, c32, d32, B32, m32, k32, rfl, -, -, -, -, -⟩ := h.form
    have hE := EQ.of (p := true) h bqm1
    have hBw := (show Below w31.heap.size w31 w32 from by first | exact hb | exact bundrew hb)
    have d8_32 := Lib.hid (d8_31.out.below hBw)
    have e1_32 := Lib.hid (e1_31.out.below hBw)
    have e2_32 := Lib.hid (e2_31.out.below hBw)
    have f1_32 := Lib.hid (f1_31.out.below hBw)
    have f2_32 := Lib.hid (f2_31.out.below hBw)
    have hf_32 := Lib.hid (hf_31.out.below hBw)
    have k6_32 := Lib.hid (k6_31.out.below hBw)
    have k8_32 := Lib.hid (k8_31.out.below hBw)
    have kt_32 := Lib.hid (kt_31.out.below hBw)
    have pv_32 := Lib.hid (pv_31.out.below hBw)
    have ra_32 := Lib.hid (ra_31.out.below hBw)
    have rb_32 := Lib.hid (rb_31.out.below hBw)
    have re_32 := Lib.hid (re_31.out.below hBw)
    have rf_32 := Lib.hid (rf_31.out.below hBw)
    have rg_32 := Lib.hid (rg_31.out.below hBw)
    have rx_32 := Lib.hid (rx_31.out.below hBw)
    have sol_32 := Lib.hid (sol_31.out.below hBw)
    have ss_32 := Lib.hid (ss_31.out.below hBw)
    have tb_32 := Lib.hid (tb_31.out.below hBw)
    have tt_32 := Lib.hid (tt_31.out.below hBw)
    have g3_32 := Lib.hid (g3_31.out.below hBw)
    have h0_32 := Lib.hid (h0_31.out.below hBw)
    have hm_32 := Lib.hid (hE)
    have HB_32 := Lib.hid (below_trans HB_31.out hBw)
    clear hBw hb d8_31 e1_31 e2_31 f1_31 f2_31 hf_31 k6_31 k8_31 kt_31 pv_31 ra_31 rb_31 re_31 rf_31 rg_31 rx_31 sol_31 ss_31 tb_31 tt_31 g3_31 h0_31 HB_31
    clear h hE
    obtain ⟨x320, x321, x322, x323, x324⟩ := k6_32.out.use4
    obtain ⟨y320, y321, y322, y323, y324⟩ := k8_32.out.use4
    clear x310 x311 x312 x313 x314 y310 y311 y312 y313 y314

    refine hKz.out _ _ ?_ (fun hHeld => ?_)
    · (try dsimp only); (first | (refine ⟨?_, ?_, ?_, ?_, ?_, ?_, ?_, ?_⟩ <;> (first | with_reducible assumption | ((with_reducible refine Eq.trans (cell_drew _ _) ?_); with_reducible assumption) | go_keep)) | go_keep)
    clear hKz Kz
    (try simp only [Act.put, List.setIfInBounds_toArray, List.set_cons_zero, List.set_cons_succ, List.getElem_toArray, List.getElem_cons_succ, List.getElem_cons_zero])
    refine wpAnyH_ready (rs := [37]) (by kernel_rfl) (by simp) ?_
    refine AllReadyH.cons rfl (fun Kz hKz => ?_) AllReadyH.nil
    go_simp
    generalize hW : w32.alloc (.cells #[.bool b31, .slice A31 n31 c31, .bool d31, .slice B31 m31 k31, .bool b32, .slice A32 n32 c32, .bool d32, .slice B32 m32 k32] 27) = w33
    have hz_33 := Lib.hid (show w33.heap.size = w32.heap.size + 1 from by rw [← hW]; simp)
    have d8_33 := Lib.hid (hW ▸ d8_32.out.alloc_ _)
    have e1_33 := Lib.hid (hW ▸ e1_32.out.alloc_ _)
    have e2_33 := Lib.hid (hW ▸ e2_32.out.alloc_ _)
    have f1_33 := Lib.hid (hW ▸ f1_32.out.alloc_ _)
    have f2_33 := Lib.hid (hW ▸ f2_32.out.alloc_ _)
    have hf_33 := Lib.hid (hW ▸ hf_32.out.alloc_ _)
    have k6_33 := Lib.hid (hW ▸ k6_32.out.alloc_ _)
    have k8_33 := Lib.hid (hW ▸ k8_32.out.alloc_ _)
    have kt_33 := Lib.hid (hW ▸ kt_32.out.alloc_ _)
    have pv_33 := Lib.hid (hW ▸ pv_32.out.alloc_ _)
    have ra_33 := Lib.hid (hW ▸ ra_32.out.alloc_ _)
    have rb_33 := Lib.hid (hW ▸ rb_32.out.alloc_ _)
    have re_33 := Lib.hid (hW ▸ re_32.out.alloc_ _)
    have rf_33 := Lib.hid (hW ▸ rf_32.out.alloc_ _)
    have rg_33 := Lib.hid (hW ▸ rg_32.out.alloc_ _)
    have rx_33 := Lib.hid (hW ▸ rx_32.out.alloc_ _)
    have sol_33 := Lib.hid (hW ▸ sol_32.out.alloc_ _)
    have ss_33 := Lib.hid (hW ▸ ss_32.out.alloc_ _)
    have tb_33 := Lib.hid (hW ▸ tb_32.out.alloc_ _)
    have tt_33 := Lib.hid (hW ▸ tt_32.out.alloc_ _)
    have g3_33 := Lib.hid (hW ▸ g3_32.out.alloc_ _)
    have h0_33 := Lib.hid (hW ▸ h0_32.out.alloc_ _)
    have hm_33 := Lib.hid (hW ▸ hm_32.out.alloc_ _)
    have rh_33 : Hid (RowT true 1 w33 (.slice (some ⟨w32.heap.size, 0, none⟩) 2 2) 2 (twoR 0 (-1))) := by rw [← hW]; exact row2 rfl h0_32.out hm_32.out
    have HB_33 := Lib.hid (show Below w.heap.size w w33 from hW ▸ halloc HB_32.out)
    clear hW d8_32 e1_32 e2_32 f1_32 f2_32 hf_32 k6_32 k8_32 kt_32 pv_32 ra_32 rb_32 re_32 rf_32 rg_32 rx_32 sol_32 ss_32 tb_32 tt_32 g3_32 h0_32 hm_32 HB_32
    obtain ⟨x330, x331, x332, x333, x334⟩ := k6_33.out.use4
    obtain ⟨y330, y331, y332, y333, y334⟩ := k8_33.out.use4
    clear x320 x321 x322 x323 x324 y320 y321 y322 y323 y324

    refine hKz.out _ _ ?_ (fun hHeld => ?_)
    · (try dsimp only); (first | (refine ⟨?_, ?_, ?_, ?_, ?_, ?_, ?_, ?_⟩ <;> (first | with_reducible assumption | ((with_reducible refine Eq.trans (cell_drew _ _) ?_); with_reducible assumption) | go_keep)) | go_keep)
    clear hKz Kz
    (try simp only [Act.put, List.setIfInBounds_toArray, List.set_cons_zero, List.set_cons_succ, List.getElem_toArray, List.getElem_cons_succ, List.getElem_cons_zero])
    refine wpAnyH_ready (rs := [38]) (by kernel_rfl) (by simp) ?_
    refine AllReadyH.cons rfl (fun Kz hKz => ?_) AllReadyH.nil
    go_simp
    refine Calls.mono (rsame ss_33.out.rowQ rh_33.out.rowQ (fun _ _ => rfl) (by omega)) ?_
    rintro e w34 ⟨rfl, hb⟩
    have hBw := (show Below w33.heap.size w33 w34 from by first | exact hb | exact bundrew hb)
    have d8_34 := Lib.hid (d8_33.out.below hBw)
    have e1_34 := Lib.hid (e1_33.out.below hBw)
    have e2_34 := Lib.hid (e2_33.out.below hBw)
    have f1_34 := Lib.hid (f1_33.out.below hBw)
    have f2_34 := Lib.hid (f2_33.out.below hBw)
    have hf_34 := Lib.hid (hf_33.out.below hBw)
    have k6_34 := Lib.hid (k6_33.out.below hBw)
    have k8_34 := Lib.hid (k8_33.out.below hBw)
    have kt_34 := Lib.hid (kt_33.out.below hBw)
    have pv_34 := Lib.hid (pv_33.out.below hBw)
    have ra_34 := Lib.hid (ra_33.out.below hBw)
    have rb_34 := Lib.hid (rb_33.out.below hBw)
    have re_34 := Lib.hid (re_33.out.below hBw)
    have rf_34 := Lib.hid (rf_33.out.below hBw)
    have rg_34 := Lib.hid (rg_33.out.below hBw)
    have rx_34 := Lib.hid (rx_33.out.below hBw)
    have sol_34 := Lib.hid (sol_33.out.below hBw)
    have ss_34 := Lib.hid (ss_33.out.below hBw)
    have tb_34 := Lib.hid (tb_33.out.below hBw)
    have tt_34 := Lib.hid (tt_33.out.below hBw)
    have g3_34 := Lib.hid (g3_33.out.below hBw)
    have h0_34 := Lib.hid (h0_33.out.below hBw)
    have hm_34 := Lib.hid (hm_33.out.below hBw)
    have rh_34 := Lib.hid (rh_33.out.below hBw)
    have HB_34 := Lib.hid (below_trans HB_33.out hBw)
    clear hBw hb d8_33 e1_33 e2_33 f1_33 f2_33 hf_33 k6_33 k8_33 kt_33 pv_33 ra_33 rb_33 re_33 rf_33 rg_33 rx_33 sol_33 ss_33 tb_33 tt_33 g3_33 h0_33 hm_33 rh_33 HB_33
    obtain ⟨x340, x341, x342, x343, x344⟩ := k6_34.out.use4
    obtain ⟨y340, y341, y342, y343, y344⟩ := k8_34.out.use4
    clear x330 x331 x332 x333 x334 y330 y331 y332 y333 y334

    refine hKz.out _ _ ?_ (fun hHeld => ?_)
    · (try dsimp only); (first | (refine ⟨?_, ?_, ?_, ?_, ?_, ?_, ?_, ?_⟩ <;> (first | with_reducible assumption | ((with_reducible refine Eq.trans (cell_drew _ _) ?_); with_reducible assumption) | go_keep)) | go_keep)
    clear hKz Kz
    (try simp only [Act.put, List.setIfInBounds_toArray, List.set_cons_zero, List.set_cons_succ, List.getElem_toArray, List.getElem_cons_succ, List.getElem_cons_zero])
    refine wpAnyH_take (i := 39) (v := ?_) rfl (by kernel_rfl) (by kernel_rfl) (by kernel_rfl) (fun _ _ _ h => h) (Or.inl ⟨by kernel_rfl, ?_⟩) (by assumption) ?_
    rotate_left
    · intro w hSw; (try dsimp only at hSw); go_simp <;> (try with_reducible rfl)
    (try simp only [Act.put, List.setIfInBounds_toArray, List.set_cons_zero, List.set_cons_succ, List.getElem_toArray, List.getElem_cons_succ, List.getElem_cons_zero])
    refine wpAnyH_take (i := 40) (v := ?_) rfl (by kernel_rfl) (by kernel_rfl) (by kernel_rfl) (fun _ _ _ h => h) (Or.inl ⟨by kernel_rfl, ?_⟩) (by assumption) ?_
    rotate_left
    · intro w hSw; (try dsimp only at hSw); go_simp <;> (try with_reducible rfl)
    (try simp only [Act.put, List.setIfInBounds_toArray, List.set_cons_zero, List.set_cons_succ, List.getElem_toArray, List.getElem_cons_succ, List.getElem_cons_zero])
    refine wpAnyH_take (i := 41) (v := ?_) rfl (by kernel_rfl) (by kernel_rfl) (by kernel_rfl) (fun _ _ _ h => h) (Or.inl ⟨by kernel_rfl, ?_⟩) (by assumption) ?_
    rotate_left
    · intro w hSw; (try dsimp only at hSw); go_simp <;> (try with_reducible rfl)
    (try simp only [Act.put, List.setIfInBounds_toArray, List.set_cons_zero, List.set_cons_succ, List.getElem_toArray, List.getElem_cons_succ, List.getElem_cons_zero])
    refine wpAnyH_ready (rs := [42]) (by kernel_rfl) (by simp) ?_
    refine AllReadyH.cons rfl (fun Kz hKz => ?_) AllReadyH.nil
    go_simp
    refine Calls.mono (lrect tb_34.out) ?_
    rintro e wq ⟨⟨b, rfl, hb⟩, hw⟩
    have hw' := hw.symm
    subst hw'
    clear hw
    obtain rfl : b = true := hb.2 (fun _ _ => rfl)
    clear hb

    refine hKz.out _ _ ?_ (fun hHeld => ?_)
    · (try dsimp only); (first | (refine ⟨?_, ?_, ?_, ?_, ?_, ?_, ?_, ?_⟩ <;> (first | with_reducible assumption | ((with_reducible refine Eq.trans (cell_drew _ _) ?_); with_reducible assumption) | go_keep)) | go_keep)
    clear hKz Kz
    (try simp only [Act.put, List.setIfInBounds_toArray, List.set_cons_zero, List.set_cons_succ, List.getElem_toArray, List.getElem_cons_succ, List.getElem_cons_zero])
    refine wpAnyH_take (i := 43) (v := ?_) rfl (by kernel_rfl) (by kernel_rfl) (by kernel_rfl) (fun _ _ _ h => h) (Or.inl ⟨by kernel_rfl, ?_⟩) (by assumption) ?_
    rotate_left
    · intro w hSw; (try dsimp only at hSw); go_simp <;> (try with_reducible rfl)
    (try simp only [Act.put, List.setIfInBounds_toArray, List.set_cons_zero, List.set_cons_succ, List.getElem_toArray, List.getElem_cons_succ, List.getElem_cons_zero])
    refine wpAnyH_take (i := 44) (v := ?_) rfl (by kernel_rfl) (by kernel_rfl) (by kernel_rfl) (fun _ _ _ h => h) (Or.inl ⟨by kernel_rfl, ?_⟩) (by assumption) ?_
    rotate_left
    · intro w hSw; (try dsimp only at hSw); go_simp <;> (try with_reducible rfl)
    (try simp only [Act.put, List.setIfInBounds_toArray, List.set_cons_zero, List.set_cons_succ, List.getElem_toArray, List.getElem_cons_succ, List.getElem_cons_zero])
    refine wpAnyH_take (i := 45) (v := ?_) rfl (by kernel_rfl) (by kernel_rfl) (by kernel_rfl) (fun _ _ _ h => h) (Or.inl ⟨by kernel_rfl, ?_⟩) (by assumption) ?_
    rotate_left
    · intro w hSw; (try dsimp only at hSw); go_simp <;> (try with_reducible rfl)
    (try simp only [Act.put, List.setIfInBounds_toArray, List.set_cons_zero, List.set_cons_succ, List.getElem_toArray, List.getElem_cons_succ, List.getElem_cons_zero])
    refine wpAnyH_ready (rs := [46]) (by kernel_rfl) (by simp) ?_
    refine AllReadyH.cons rfl (fun Kz hKz => ?_) AllReadyH.nil
    go_simp
    refine Calls.mono (lrect tb_34.out) ?_
    rintro e wq ⟨⟨b, rfl, hb⟩, hw⟩
    have hw' := hw.symm
    subst hw'
    clear hw
    obtain rfl : b = false := by
      cases b
      · rfl
      · exact absurd (hb.1 rfl 0 (by omega)) (by decide)
    clear hb

    refine hKz.out _ _ ?_ (fun hHeld => ?_)
    · (try dsimp only); (first | (refine ⟨?_, ?_, ?_, ?_, ?_, ?_, ?_, ?_⟩ <;> (first | with_reducible assumption | ((with_reducible refine Eq.trans (cell_drew _ _) ?_); with_reducible assumption) | go_keep)) | go_keep)
    clear hKz Kz
    (try simp only [Act.put, List.setIfInBounds_toArray, List.set_cons_zero, List.set_cons_succ, List.getElem_toArray, List.getElem_cons_succ, List.getElem_cons_zero])
    refine wpAnyH_take (i := 47) (v := ?_) rfl (by kernel_rfl) (by kernel_rfl) (by kernel_rfl) (fun _ _ _ h => h) (Or.inl ⟨by kernel_rfl, ?_⟩) (by assumption) ?_
    rotate_left
    · intro w hSw; (try dsimp only at hSw); go_simp <;> (try with_reducible rfl)
    (try simp only [Act.put, List.setIfInBounds_toArray, List.set_cons_zero, List.set_cons_succ, List.getElem_toArray, List.getElem_cons_succ, List.getElem_cons_zero])
    refine wpAnyH_take (i := 48) (v := ?_) rfl (by kernel_rfl) (by kernel_rfl) (by kernel_rfl) (fun _ _ _ h => h) (Or.inl ⟨by kernel_rfl, ?_⟩) (by assumption) ?_
    rotate_left
    · intro w hSw; (try dsimp only at hSw); go_simp <;> (try with_reducible rfl)
    (try simp only [Act.put, List.setIfInBounds_toArray, List.set_cons_zero, List.set_cons_succ, List.getElem_toArray, List.getElem_cons_succ, List.getElem_cons_zero])
    refine wpAnyH_take (i := 49) (v := ?_) rfl (by kernel_rfl) (by kernel_rfl) (by kernel_rfl) (fun _ _ _ h => h) (Or.inl ⟨by kernel_rfl, ?_⟩) (by assumption) ?_
    rotate_left
    · intro w hSw; (try dsimp only at hSw); go_simp <;> (try with_reducible rfl)
    (try simp only [Act.put, List.setIfInBounds_toArray, List.set_cons_zero, List.set_cons_succ, List.getElem_toArray, List.getElem_cons_succ, List.getElem_cons_zero])
    refine wpAnyH_done (by kernel_rfl) ?_ _
    go_wp2
    go_ret
    exact ⟨rfl, HB_34.out⟩
end Go.Proofs.YtebdmidghidaeaaGreat
