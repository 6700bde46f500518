/- WholeNumbers: the walk. -/
import Derived.Test.YthndfmpnfgbioaaWm
import Derived.IntWalk
namespace Go.Proofs.Ythndfmpnfgbioaa
open Go.RowKit
attribute [local go_sem ↓] Go.wp_at_zero Go.wp_at_succ
set_option linter.unusedVariables false

theorem li_small_at {k : Nat} {w : World} {v : Value} {X : Int} (r : Int) (hr : X = r) (h : LimI k w v X) (hk : k ≤ 1000000) (h1 : -9223372036854775808 ≤ X) (h2 : X ≤ 9223372036854775807) : Calls Try.prog 47 #[v] w fun e w' => e = .returned (.tuple #[.int .i64 r, .bool true]) ∧ Below w.heap.size w w' := by
  subst hr
  exact li_small_is h hk h1 h2
theorem mul_b31 {X Y : Int} (hx : -2147483648 ≤ X ∧ X ≤ 2147483647) (hy : -2147483648 ≤ Y ∧ Y ≤ 2147483647) : -4611686018427387904 ≤ X * Y ∧ X * Y ≤ 4611686018427387904 := by
  have h : (X * Y).natAbs ≤ 2147483648 * 2147483648 := by
    rw [Int.natAbs_mul]
    exact Nat.mul_le_mul (by omega) (by omega)
  omega
/-- The quotient that is cut off towards 0, and the one that is rounded down. -/
theorem quo_cases {X Y : Int} (hx : -2147483648 ≤ X ∧ X ≤ 2147483647) (hy : -2147483648 ≤ Y ∧ Y ≤ 2147483647) (h0 : Y ≠ 0) :
    ∃ t q r p : Int, X.tdiv Y = t ∧ t * Y = p ∧ FDiv X Y q r ∧ -2147483648 ≤ t ∧ t ≤ 2147483648 ∧ -2147483648 ≤ p ∧ p ≤ 2147483648 ∧ -2147483649 ≤ q ∧ q ≤ 2147483648 ∧ -2147483648 ≤ r ∧ r ≤ 2147483648 ∧
      ((p = X ∧ q = t ∧ r = X - p) ∨ (p ≠ X ∧ (decide (X < 0) = decide (Y < 0)) ∧ q = t ∧ r = X - p) ∨ (p ≠ X ∧ (decide (X < 0) = !decide (Y < 0)) ∧ q = t - 1 ∧ r = X - (p - Y))) := by
  have h1 : X.tdiv Y * Y + X.tmod Y = X := by rw [Int.mul_comm]; exact Int.mul_tdiv_add_tmod X Y
  have h2 : (X.tmod Y).natAbs < Y.natAbs := by rw [Int.natAbs_tmod]; exact Nat.mod_lt _ (by omega)
  have h3 : 0 ≤ X → 0 ≤ X.tmod Y := fun h => Int.tmod_nonneg _ h
  have h4 : X ≤ 0 → X.tmod Y ≤ 0 := fun h => by
    have : 0 ≤ (-X).tmod Y := Int.tmod_nonneg _ (by omega)
    rw [Int.neg_tmod] at this
    omega
  have h5 : (X.tdiv Y).natAbs ≤ X.natAbs := by rw [Int.natAbs_tdiv]; exact Nat.div_le_self _ _
  generalize X.tmod Y = u at *
  generalize X.tdiv Y = t at *
  by_cases hu : u = 0
  · subst hu
    refine ⟨t, t, 0, t * Y, rfl, rfl, ⟨by omega, by omega⟩, by omega, by omega, by omega, by omega, by omega, by omega, by omega, by omega, .inl ⟨by omega, rfl, by omega⟩⟩
  · by_cases hs : decide (X < 0) = decide (Y < 0)
    · have hs' : (X < 0) ↔ (Y < 0) := decide_eq_decide.1 hs
      refine ⟨t, t, u, t * Y, rfl, rfl, ⟨by omega, by omega⟩, by omega, by omega, by omega, by omega, by omega, by omega, by omega, by omega, .inr (.inl ⟨by omega, hs, rfl, by omega⟩)⟩
    · have hs' : ¬ ((X < 0) ↔ (Y < 0)) := fun h => hs (decide_eq_decide.2 h)
      have hs2 : decide (X < 0) = !decide (Y < 0) := by
        by_cases a : X < 0 <;> by_cases b : Y < 0 <;> simp [a, b] at hs ⊢
      have e : (t - 1) * Y = t * Y - Y := by rw [Int.sub_mul, Int.one_mul]
      refine ⟨t, t - 1, u + Y, t * Y, rfl, rfl, ⟨by omega, by omega⟩, by omega, by omega, by omega, by omega, by omega, by omega, by omega, by omega, .inr (.inr ⟨by omega, hs2, rfl, by omega⟩)⟩

set_option maxRecDepth 100000 in
set_option maxHeartbeats 8000000 in
theorem wholeNumbers_zero (X Y : Int) (w : World) (hx : -2147483648 ≤ X ∧ X ≤ 2147483647) (hy : -2147483648 ≤ Y ∧ Y ≤ 2147483647) (hY : Y = 0) :
    Calls Try.prog 11 #[.int .i32 X, .int .i32 Y] w fun e w' => e = .returned (.bool true) ∧ Below w.heap.size w w' := by
  have MB := mul_b31 hx hy
  have HX : Hid (X.natAbs < 4294967296 ^ 1) := by show _ < _; omega
  have HY : Hid (Y.natAbs < 4294967296 ^ 1) := by show _ < _; omega
  have HA : Hid ((X + Y).natAbs < 4294967296 ^ 2) := by show _ < _; omega
  have HS : Hid ((X - Y).natAbs < 4294967296 ^ 2) := by show _ < _; omega
  have HM : Hid ((X * Y).natAbs < 4294967296 ^ 2) := by show _ < _; omega
  obtain ⟨hx1, hx2⟩ := hx
  obtain ⟨hy1, hy2⟩ := hy
  have B1 : Hid (-9223372036854775808 ≤ X ∧ X ≤ 9223372036854775807 ∧ -9223372036854775808 ≤ Y ∧ Y ≤ 9223372036854775807) := by show _ ∧ _; omega
  have B2 : Hid (-9223372036854775808 ≤ X + Y ∧ X + Y ≤ 9223372036854775807 ∧ -9223372036854775808 ≤ X - Y ∧ X - Y ≤ 9223372036854775807 ∧ -9223372036854775808 ≤ X * Y ∧ X * Y ≤ 9223372036854775807) := by show _ ∧ _; omega
  have wX : IntKind.i64.wrap X = X := IntWalk.i64_in _ (by omega)
  have wY : IntKind.i64.wrap Y = Y := IntWalk.i64_in _ (by omega)
  have wA : IntKind.i64.wrap (X + Y) = X + Y := IntWalk.i64_in _ (by omega)
  have wS : IntKind.i64.wrap (X - Y) = X - Y := IntWalk.i64_in _ (by omega)
  have wP : IntKind.i64.wrap (X * Y) = X * Y := IntWalk.i64_in _ (by omega)
  have y0 : (Y != 0) = false := by rw [hY]; rfl
  have HY0 := Lib.hid hY
  clear hY MB
  go_enter Try.func11, Try.ntmps11
  go_wp2_with fail
  refine Calls.mono (awake2 _) ?_
  rintro e w1 ⟨rfl, hb1⟩
  have hz1 : w.heap.size ≤ w1.heap.size := (by have hz := hb1.size; (try simp at hz); omega)
  have HB1 := Lib.hid (show Below w.heap.size w w1 from (by repeat first | exact Below.refl _ _ | (with_reducible refine Below.trans ?_ (Below.mono (by with_reducible assumption) ?_)) | (with_reducible refine Below.alloc_ ?_ ?_ _) | (with_reducible refine Below.drew ?_) | (with_reducible refine Below.set2 ?_ ?_) | exact Nat.le_refl _ | omega | focus (simp <;> omega)))
  have hs1 : w.heap.size ≤ w1.heap.size := HB1.out.size
  clear hb1
  go_wp2_with fail
  refine Calls.mono (of_any X _ B1.out.1 B1.out.2.1) ?_
  rintro e w2 ⟨v2, rfl, h2, hb2⟩
  obtain ⟨bh2, Ah2, nh2, ch2, rfl, -, -, h2⟩ := h2.form
  have hz2 : w1.heap.size ≤ w2.heap.size := (by have hz := hb2.size; (try simp at hz); omega)
  have x_2 := Lib.hid (show IsInt w2 (.agg #[.bool bh2, .slice Ah2 nh2 ch2]) X from h2)
  have HB2 := Lib.hid (show Below w.heap.size w w2 from (by repeat first | exact Below.refl _ _ | exact HB1.out | (with_reducible refine Below.trans ?_ (Below.mono (by with_reducible assumption) ?_)) | (with_reducible refine Below.alloc_ ?_ ?_ _) | (with_reducible refine Below.drew ?_) | (with_reducible refine Below.set2 ?_ ?_) | exact Nat.le_refl _ | omega | focus (simp <;> omega)))
  have hs2 : w.heap.size ≤ w2.heap.size := HB2.out.size
  clear HB1 hb2
  go_wp2_with fail
  refine Calls.mono (of_any Y _ B1.out.2.2.1 B1.out.2.2.2) ?_
  rintro e w3 ⟨v3, rfl, h3, hb3⟩
  obtain ⟨bh3, Ah3, nh3, ch3, rfl, -, -, h3⟩ := h3.form
  have hz3 : w2.heap.size + 1 ≤ w3.heap.size := (by have hz := hb3.size; (try simp at hz); omega)
  have k3_x := Blk.below (g := w2.heap.size) (t := 41) (cs := #[.bool bh2, .slice Ah2 nh2 ch2]) (by repeat (first | (with_reducible first | assumption | (refine Hid.out ?_; assumption) | apply Blk.drew_) | ((with_reducible refine Blk.new _ _ ?_ _ _) <;> (first | rfl | (simp; done))) | (with_reducible first | refine Blk.alloc_ ?_ _ | apply Blk.own2 | refine Blk.other2 ?_ (by omega) | (apply Blk.below; rotate_left; assumption)))) hb3
  have p3_x := k3_x.cell0
  have d3_x : w2.heap.size < w3.heap.size := k3_x.lt
  have q3_x := k3_x.cell1
  have K3_x := Lib.hid k3_x; clear k3_x
  have x_3 := Lib.hid (show IsInt w3 (.agg #[.bool bh2, .slice Ah2 nh2 ch2]) X from (by repeat (with_reducible first | assumption | (refine Hid.out ?_; assumption) | apply LimI.drew_ | apply IsInt.drew_ | refine LimI.alloc_ ?_ _ | refine IsInt.alloc_ ?_ _ | (apply LimI.below; rotate_left; assumption) | (apply IsInt.below; rotate_left; assumption))))
  have y_3 := Lib.hid (show IsInt w3 (.agg #[.bool bh3, .slice Ah3 nh3 ch3]) Y from h3)
  have HB3 := Lib.hid (show Below w.heap.size w w3 from (by repeat first | exact Below.refl _ _ | exact HB2.out | (with_reducible refine Below.trans ?_ (Below.mono (by with_reducible assumption) ?_)) | (with_reducible refine Below.alloc_ ?_ ?_ _) | (with_reducible refine Below.drew ?_) | (with_reducible refine Below.set2 ?_ ?_) | exact Nat.le_refl _ | omega | focus (simp <;> omega)))
  have hs3 : w.heap.size ≤ w3.heap.size := HB3.out.size
  clear x_2 HB2 hb3
  go_wp2_with fail
  refine Calls.mono (li_add (k := 1) (l := 1) (X := X) (Y := Y) (IsInt.lim (k := 1) (Z := X) (by repeat (with_reducible first | assumption | (refine Hid.out ?_; assumption) | apply LimI.drew_ | apply IsInt.drew_ | refine LimI.alloc_ ?_ _ | refine IsInt.alloc_ ?_ _ | (apply LimI.below; rotate_left; assumption) | (apply IsInt.below; rotate_left; assumption))) HX.out) (IsInt.lim (k := 1) (Z := Y) (by repeat (with_reducible first | assumption | (refine Hid.out ?_; assumption) | apply LimI.drew_ | apply IsInt.drew_ | refine LimI.alloc_ ?_ _ | refine IsInt.alloc_ ?_ _ | (apply LimI.below; rotate_left; assumption) | (apply IsInt.below; rotate_left; assumption))) HY.out) (by omega) (by omega)) ?_
  rintro e w4 ⟨v4, rfl, h4, hb4⟩
  have hz4 : w3.heap.size + 1 ≤ w4.heap.size := (by have hz := hb4.size; (try simp at hz); omega)
  have k4_x := Blk.below (g := w2.heap.size) (t := 41) (cs := #[.bool bh2, .slice Ah2 nh2 ch2]) (by repeat (first | (with_reducible first | assumption | (refine Hid.out ?_; assumption) | apply Blk.drew_) | ((with_reducible refine Blk.new _ _ ?_ _ _) <;> (first | rfl | (simp; done))) | (with_reducible first | refine Blk.alloc_ ?_ _ | apply Blk.own2 | refine Blk.other2 ?_ (by omega) | (apply Blk.below; rotate_left; assumption)))) hb4
  have p4_x := k4_x.cell0
  have d4_x : w2.heap.size < w4.heap.size := k4_x.lt
  have q4_x := k4_x.cell1
  have K4_x := Lib.hid k4_x; clear k4_x
  have k4_y := Blk.below (g := w3.heap.size) (t := 41) (cs := #[.bool bh3, .slice Ah3 nh3 ch3]) (by repeat (first | (with_reducible first | assumption | (refine Hid.out ?_; assumption) | apply Blk.drew_) | ((with_reducible refine Blk.new _ _ ?_ _ _) <;> (first | rfl | (simp; done))) | (with_reducible first | refine Blk.alloc_ ?_ _ | apply Blk.own2 | refine Blk.other2 ?_ (by omega) | (apply Blk.below; rotate_left; assumption)))) hb4
  have p4_y := k4_y.cell0
  have d4_y : w3.heap.size < w4.heap.size := k4_y.lt
  have q4_y := k4_y.cell1
  have K4_y := Lib.hid k4_y; clear k4_y
  have x_4 := Lib.hid (show IsInt w4 (.agg #[.bool bh2, .slice Ah2 nh2 ch2]) X from (by repeat (with_reducible first | assumption | (refine Hid.out ?_; assumption) | apply LimI.drew_ | apply IsInt.drew_ | refine LimI.alloc_ ?_ _ | refine IsInt.alloc_ ?_ _ | (apply LimI.below; rotate_left; assumption) | (apply IsInt.below; rotate_left; assumption))))
  have y_4 := Lib.hid (show IsInt w4 (.agg #[.bool bh3, .slice Ah3 nh3 ch3]) Y from (by repeat (with_reducible first | assumption | (refine Hid.out ?_; assumption) | apply LimI.drew_ | apply IsInt.drew_ | refine LimI.alloc_ ?_ _ | refine IsInt.alloc_ ?_ _ | (apply LimI.below; rotate_left; assumption) | (apply IsInt.below; rotate_left; assumption))))
  have s_4 := Lib.hid (show IsInt w4 v4 (X + Y) from h4)
  have HB4 := Lib.hid (show Below w.heap.size w w4 from (by repeat first | exact Below.refl _ _ | exact HB3.out | (with_reducible refine Below.trans ?_ (Below.mono (by with_reducible assumption) ?_)) | (with_reducible refine Below.alloc_ ?_ ?_ _) | (with_reducible refine Below.drew ?_) | (with_reducible refine Below.set2 ?_ ?_) | exact Nat.le_refl _ | omega | focus (simp <;> omega)))
  have hs4 : w.heap.size ≤ w4.heap.size := HB4.out.size
  clear K3_x x_3 y_3 HB3 hb4
  go_wp2_with fail
  refine Calls.mono (li_small_is (k := 2) (X := X + Y) (IsInt.lim (k := 2) (Z := X + Y) (by repeat (with_reducible first | assumption | (refine Hid.out ?_; assumption) | apply LimI.drew_ | apply IsInt.drew_ | refine LimI.alloc_ ?_ _ | refine IsInt.alloc_ ?_ _ | (apply LimI.below; rotate_left; assumption) | (apply IsInt.below; rotate_left; assumption))) HA.out) (by omega) B2.out.1 B2.out.2.1) ?_
  rintro e w5 ⟨rfl, hb5⟩
  have hz5 : w4.heap.size ≤ w5.heap.size := (by have hz := hb5.size; (try simp at hz); omega)
  have k5_x := Blk.below (g := w2.heap.size) (t := 41) (cs := #[.bool bh2, .slice Ah2 nh2 ch2]) (by repeat (first | (with_reducible first | assumption | (refine Hid.out ?_; assumption) | apply Blk.drew_) | ((with_reducible refine Blk.new _ _ ?_ _ _) <;> (first | rfl | (simp; done))) | (with_reducible first | refine Blk.alloc_ ?_ _ | apply Blk.own2 | refine Blk.other2 ?_ (by omega) | (apply Blk.below; rotate_left; assumption)))) hb5
  have p5_x := k5_x.cell0
  have d5_x : w2.heap.size < w5.heap.size := k5_x.lt
  have q5_x := k5_x.cell1
  have K5_x := Lib.hid k5_x; clear k5_x
  have k5_y := Blk.below (g := w3.heap.size) (t := 41) (cs := #[.bool bh3, .slice Ah3 nh3 ch3]) (by repeat (first | (with_reducible first | assumption | (refine Hid.out ?_; assumption) | apply Blk.drew_) | ((with_reducible refine Blk.new _ _ ?_ _ _) <;> (first | rfl | (simp; done))) | (with_reducible first | refine Blk.alloc_ ?_ _ | apply Blk.own2 | refine Blk.other2 ?_ (by omega) | (apply Blk.below; rotate_left; assumption)))) hb5
  have p5_y := k5_y.cell0
  have d5_y : w3.heap.size < w5.heap.size := k5_y.lt
  have q5_y := k5_y.cell1
  have K5_y := Lib.hid k5_y; clear k5_y
  have x_5 := Lib.hid (show IsInt w5 (.agg #[.bool bh2, .slice Ah2 nh2 ch2]) X from (by repeat (with_reducible first | assumption | (refine Hid.out ?_; assumption) | apply LimI.drew_ | apply IsInt.drew_ | refine LimI.alloc_ ?_ _ | refine IsInt.alloc_ ?_ _ | (apply LimI.below; rotate_left; assumption) | (apply IsInt.below; rotate_left; assumption))))
  have y_5 := Lib.hid (show IsInt w5 (.agg #[.bool bh3, .slice Ah3 nh3 ch3]) Y from (by repeat (with_reducible first | assumption | (refine Hid.out ?_; assumption) | apply LimI.drew_ | apply IsInt.drew_ | refine LimI.alloc_ ?_ _ | refine IsInt.alloc_ ?_ _ | (apply LimI.below; rotate_left; assumption) | (apply IsInt.below; rotate_left; assumption))))
  have HB5 := Lib.hid (show Below w.heap.size w w5 from (by repeat first | exact Below.refl _ _ | exact HB4.out | (with_reducible refine Below.trans ?_ (Below.mono (by with_reducible assumption) ?_)) | (with_reducible refine Below.alloc_ ?_ ?_ _) | (with_reducible refine Below.drew ?_) | (with_reducible refine Below.set2 ?_ ?_) | exact Nat.le_refl _ | omega | focus (simp <;> omega)))
  have hs5 : w.heap.size ≤ w5.heap.size := HB5.out.size
  clear K4_x K4_y x_4 y_4 s_4 HB4 hb5
  go_wp2_with fail
  refine Calls.mono (li_sub (k := 1) (l := 1) (X := X) (Y := Y) (IsInt.lim (k := 1) (Z := X) (by repeat (with_reducible first | assumption | (refine Hid.out ?_; assumption) | apply LimI.drew_ | apply IsInt.drew_ | refine LimI.alloc_ ?_ _ | refine IsInt.alloc_ ?_ _ | (apply LimI.below; rotate_left; assumption) | (apply IsInt.below; rotate_left; assumption))) HX.out) (IsInt.lim (k := 1) (Z := Y) (by repeat (with_reducible first | assumption | (refine Hid.out ?_; assumption) | apply LimI.drew_ | apply IsInt.drew_ | refine LimI.alloc_ ?_ _ | refine IsInt.alloc_ ?_ _ | (apply LimI.below; rotate_left; assumption) | (apply IsInt.below; rotate_left; assumption))) HY.out) (by omega) (by omega)) ?_
  rintro e w6 ⟨v6, rfl, h6, hb6⟩
  have hz6 : w5.heap.size ≤ w6.heap.size := (by have hz := hb6.size; (try simp at hz); omega)
  have k6_x := Blk.below (g := w2.heap.size) (t := 41) (cs := #[.bool bh2, .slice Ah2 nh2 ch2]) (by repeat (first | (with_reducible first | assumption | (refine Hid.out ?_; assumption) | apply Blk.drew_) | ((with_reducible refine Blk.new _ _ ?_ _ _) <;> (first | rfl | (simp; done))) | (with_reducible first | refine Blk.alloc_ ?_ _ | apply Blk.own2 | refine Blk.other2 ?_ (by omega) | (apply Blk.below; rotate_left; assumption)))) hb6
  have p6_x := k6_x.cell0
  have d6_x : w2.heap.size < w6.heap.size := k6_x.lt
  have q6_x := k6_x.cell1
  have K6_x := Lib.hid k6_x; clear k6_x
  have k6_y := Blk.below (g := w3.heap.size) (t := 41) (cs := #[.bool bh3, .slice Ah3 nh3 ch3]) (by repeat (first | (with_reducible first | assumption | (refine Hid.out ?_; assumption) | apply Blk.drew_) | ((with_reducible refine Blk.new _ _ ?_ _ _) <;> (first | rfl | (simp; done))) | (with_reducible first | refine Blk.alloc_ ?_ _ | apply Blk.own2 | refine Blk.other2 ?_ (by omega) | (apply Blk.below; rotate_left; assumption)))) hb6
  have p6_y := k6_y.cell0
  have d6_y : w3.heap.size < w6.heap.size := k6_y.lt
  have q6_y := k6_y.cell1
  have K6_y := Lib.hid k6_y; clear k6_y
  have x_6 := Lib.hid (show IsInt w6 (.agg #[.bool bh2, .slice Ah2 nh2 ch2]) X from (by repeat (with_reducible first | assumption | (refine Hid.out ?_; assumption) | apply LimI.drew_ | apply IsInt.drew_ | refine LimI.alloc_ ?_ _ | refine IsInt.alloc_ ?_ _ | (apply LimI.below; rotate_left; assumption) | (apply IsInt.below; rotate_left; assumption))))
  have y_6 := Lib.hid (show IsInt w6 (.agg #[.bool bh3, .slice Ah3 nh3 ch3]) Y from (by repeat (with_reducible first | assumption | (refine Hid.out ?_; assumption) | apply LimI.drew_ | apply IsInt.drew_ | refine LimI.alloc_ ?_ _ | refine IsInt.alloc_ ?_ _ | (apply LimI.below; rotate_left; assumption) | (apply IsInt.below; rotate_left; assumption))))
  have s_6 := Lib.hid (show IsInt w6 v6 (X - Y) from h6)
  have HB6 := Lib.hid (show Below w.heap.size w w6 from (by repeat first | exact Below.refl _ _ | exact HB5.out | (with_reducible refine Below.trans ?_ (Below.mono (by with_reducible assumption) ?_)) | (with_reducible refine Below.alloc_ ?_ ?_ _) | (with_reducible refine Below.drew ?_) | (with_reducible refine Below.set2 ?_ ?_) | exact Nat.le_refl _ | omega | focus (simp <;> omega)))
  have hs6 : w.heap.size ≤ w6.heap.size := HB6.out.size
  clear K5_x K5_y x_5 y_5 HB5 hb6
  go_wp2_with fail
  refine Calls.mono (li_small_is (k := 2) (X := X - Y) (IsInt.lim (k := 2) (Z := X - Y) (by repeat (with_reducible first | assumption | (refine Hid.out ?_; assumption) | apply LimI.drew_ | apply IsInt.drew_ | refine LimI.alloc_ ?_ _ | refine IsInt.alloc_ ?_ _ | (apply LimI.below; rotate_left; assumption) | (apply IsInt.below; rotate_left; assumption))) HS.out) (by omega) B2.out.2.2.1 B2.out.2.2.2.1) ?_
  rintro e w7 ⟨rfl, hb7⟩
  have hz7 : w6.heap.size ≤ w7.heap.size := (by have hz := hb7.size; (try simp at hz); omega)
  have k7_x := Blk.below (g := w2.heap.size) (t := 41) (cs := #[.bool bh2, .slice Ah2 nh2 ch2]) (by repeat (first | (with_reducible first | assumption | (refine Hid.out ?_; assumption) | apply Blk.drew_) | ((with_reducible refine Blk.new _ _ ?_ _ _) <;> (first | rfl | (simp; done))) | (with_reducible first | refine Blk.alloc_ ?_ _ | apply Blk.own2 | refine Blk.other2 ?_ (by omega) | (apply Blk.below; rotate_left; assumption)))) hb7
  have p7_x := k7_x.cell0
  have d7_x : w2.heap.size < w7.heap.size := k7_x.lt
  have q7_x := k7_x.cell1
  have K7_x := Lib.hid k7_x; clear k7_x
  have k7_y := Blk.below (g := w3.heap.size) (t := 41) (cs := #[.bool bh3, .slice Ah3 nh3 ch3]) (by repeat (first | (with_reducible first | assumption | (refine Hid.out ?_; assumption) | apply Blk.drew_) | ((with_reducible refine Blk.new _ _ ?_ _ _) <;> (first | rfl | (simp; done))) | (with_reducible first | refine Blk.alloc_ ?_ _ | apply Blk.own2 | refine Blk.other2 ?_ (by omega) | (apply Blk.below; rotate_left; assumption)))) hb7
  have p7_y := k7_y.cell0
  have d7_y : w3.heap.size < w7.heap.size := k7_y.lt
  have q7_y := k7_y.cell1
  have K7_y := Lib.hid k7_y; clear k7_y
  have x_7 := Lib.hid (show IsInt w7 (.agg #[.bool bh2, .slice Ah2 nh2 ch2]) X from (by repeat (with_reducible first | assumption | (refine Hid.out ?_; assumption) | apply LimI.drew_ | apply IsInt.drew_ | refine LimI.alloc_ ?_ _ | refine IsInt.alloc_ ?_ _ | (apply LimI.below; rotate_left; assumption) | (apply IsInt.below; rotate_left; assumption))))
  have y_7 := Lib.hid (show IsInt w7 (.agg #[.bool bh3, .slice Ah3 nh3 ch3]) Y from (by repeat (with_reducible first | assumption | (refine Hid.out ?_; assumption) | apply LimI.drew_ | apply IsInt.drew_ | refine LimI.alloc_ ?_ _ | refine IsInt.alloc_ ?_ _ | (apply LimI.below; rotate_left; assumption) | (apply IsInt.below; rotate_left; assumption))))
  have HB7 := Lib.hid (show Below w.heap.size w w7 from (by repeat first | exact Below.refl _ _ | exact HB6.out | (with_reducible refine Below.trans ?_ (Below.mono (by with_reducible assumption) ?_)) | (with_reducible refine Below.alloc_ ?_ ?_ _) | (with_reducible refine Below.drew ?_) | (with_reducible refine Below.set2 ?_ ?_) | exact Nat.le_refl _ | omega | focus (simp <;> omega)))
  have hs7 : w.heap.size ≤ w7.heap.size := HB7.out.size
  clear K6_x K6_y x_6 y_6 s_6 HB6 hb7
  go_wp2_with fail
  refine Calls.mono (li_mul (k := 1) (l := 1) (X := X) (Y := Y) (IsInt.lim (k := 1) (Z := X) (by repeat (with_reducible first | assumption | (refine Hid.out ?_; assumption) | apply LimI.drew_ | apply IsInt.drew_ | refine LimI.alloc_ ?_ _ | refine IsInt.alloc_ ?_ _ | (apply LimI.below; rotate_left; assumption) | (apply IsInt.below; rotate_left; assumption))) HX.out) (IsInt.lim (k := 1) (Z := Y) (by repeat (with_reducible first | assumption | (refine Hid.out ?_; assumption) | apply LimI.drew_ | apply IsInt.drew_ | refine LimI.alloc_ ?_ _ | refine IsInt.alloc_ ?_ _ | (apply LimI.below; rotate_left; assumption) | (apply IsInt.below; rotate_left; assumption))) HY.out) (by omega) (by omega)) ?_
  rintro e w8 ⟨v8, rfl, h8, hb8⟩
  have hz8 : w7.heap.size ≤ w8.heap.size := (by have hz := hb8.size; (try simp at hz); omega)
  have k8_x := Blk.below (g := w2.heap.size) (t := 41) (cs := #[.bool bh2, .slice Ah2 nh2 ch2]) (by repeat (first | (with_reducible first | assumption | (refine Hid.out ?_; assumption) | apply Blk.drew_) | ((with_reducible refine Blk.new _ _ ?_ _ _) <;> (first | rfl | (simp; done))) | (with_reducible first | refine Blk.alloc_ ?_ _ | apply Blk.own2 | refine Blk.other2 ?_ (by omega) | (apply Blk.below; rotate_left; assumption)))) hb8
  have p8_x := k8_x.cell0
  have d8_x : w2.heap.size < w8.heap.size := k8_x.lt
  have q8_x := k8_x.cell1
  have K8_x := Lib.hid k8_x; clear k8_x
  have k8_y := Blk.below (g := w3.heap.size) (t := 41) (cs := #[.bool bh3, .slice Ah3 nh3 ch3]) (by repeat (first | (with_reducible first | assumption | (refine Hid.out ?_; assumption) | apply Blk.drew_) | ((with_reducible refine Blk.new _ _ ?_ _ _) <;> (first | rfl | (simp; done))) | (with_reducible first | refine Blk.alloc_ ?_ _ | apply Blk.own2 | refine Blk.other2 ?_ (by omega) | (apply Blk.below; rotate_left; assumption)))) hb8
  have p8_y := k8_y.cell0
  have d8_y : w3.heap.size < w8.heap.size := k8_y.lt
  have q8_y := k8_y.cell1
  have K8_y := Lib.hid k8_y; clear k8_y
  have x_8 := Lib.hid (show IsInt w8 (.agg #[.bool bh2, .slice Ah2 nh2 ch2]) X from (by repeat (with_reducible first | assumption | (refine Hid.out ?_; assumption) | apply LimI.drew_ | apply IsInt.drew_ | refine LimI.alloc_ ?_ _ | refine IsInt.alloc_ ?_ _ | (apply LimI.below; rotate_left; assumption) | (apply IsInt.below; rotate_left; assumption))))
  have y_8 := Lib.hid (show IsInt w8 (.agg #[.bool bh3, .slice Ah3 nh3 ch3]) Y from (by repeat (with_reducible first | assumption | (refine Hid.out ?_; assumption) | apply LimI.drew_ | apply IsInt.drew_ | refine LimI.alloc_ ?_ _ | refine IsInt.alloc_ ?_ _ | (apply LimI.below; rotate_left; assumption) | (apply IsInt.below; rotate_left; assumption))))
  have s_8 := Lib.hid (show IsInt w8 v8 (X * Y) from h8)
  have HB8 := Lib.hid (show Below w.heap.size w w8 from (by repeat first | exact Below.refl _ _ | exact HB7.out | (with_reducible refine Below.trans ?_ (Below.mono (by with_reducible assumption) ?_)) | (with_reducible refine Below.alloc_ ?_ ?_ _) | (with_reducible refine Below.drew ?_) | (with_reducible refine Below.set2 ?_ ?_) | exact Nat.le_refl _ | omega | focus (simp <;> omega)))
  have hs8 : w.heap.size ≤ w8.heap.size := HB8.out.size
  clear K7_x K7_y x_7 y_7 HB7 hb8
  go_wp2_with fail
  refine Calls.mono (li_small_is (k := 2) (X := X * Y) (IsInt.lim (k := 2) (Z := X * Y) (by repeat (with_reducible first | assumption | (refine Hid.out ?_; assumption) | apply LimI.drew_ | apply IsInt.drew_ | refine LimI.alloc_ ?_ _ | refine IsInt.alloc_ ?_ _ | (apply LimI.below; rotate_left; assumption) | (apply IsInt.below; rotate_left; assumption))) HM.out) (by omega) B2.out.2.2.2.2.1 B2.out.2.2.2.2.2) ?_
  rintro e w9 ⟨rfl, hb9⟩
  have hz9 : w8.heap.size ≤ w9.heap.size := (by have hz := hb9.size; (try simp at hz); omega)
  have k9_x := Blk.below (g := w2.heap.size) (t := 41) (cs := #[.bool bh2, .slice Ah2 nh2 ch2]) (by repeat (first | (with_reducible first | assumption | (refine Hid.out ?_; assumption) | apply Blk.drew_) | ((with_reducible refine Blk.new _ _ ?_ _ _) <;> (first | rfl | (simp; done))) | (with_reducible first | refine Blk.alloc_ ?_ _ | apply Blk.own2 | refine Blk.other2 ?_ (by omega) | (apply Blk.below; rotate_left; assumption)))) hb9
  have p9_x := k9_x.cell0
  have d9_x : w2.heap.size < w9.heap.size := k9_x.lt
  have q9_x := k9_x.cell1
  have K9_x := Lib.hid k9_x; clear k9_x
  have k9_y := Blk.below (g := w3.heap.size) (t := 41) (cs := #[.bool bh3, .slice Ah3 nh3 ch3]) (by repeat (first | (with_reducible first | assumption | (refine Hid.out ?_; assumption) | apply Blk.drew_) | ((with_reducible refine Blk.new _ _ ?_ _ _) <;> (first | rfl | (simp; done))) | (with_reducible first | refine Blk.alloc_ ?_ _ | apply Blk.own2 | refine Blk.other2 ?_ (by omega) | (apply Blk.below; rotate_left; assumption)))) hb9
  have p9_y := k9_y.cell0
  have d9_y : w3.heap.size < w9.heap.size := k9_y.lt
  have q9_y := k9_y.cell1
  have K9_y := Lib.hid k9_y; clear k9_y
  have x_9 := Lib.hid (show IsInt w9 (.agg #[.bool bh2, .slice Ah2 nh2 ch2]) X from (by repeat (with_reducible first | assumption | (refine Hid.out ?_; assumption) | apply LimI.drew_ | apply IsInt.drew_ | refine LimI.alloc_ ?_ _ | refine IsInt.alloc_ ?_ _ | (apply LimI.below; rotate_left; assumption) | (apply IsInt.below; rotate_left; assumption))))
  have y_9 := Lib.hid (show IsInt w9 (.agg #[.bool bh3, .slice Ah3 nh3 ch3]) Y from (by repeat (with_reducible first | assumption | (refine Hid.out ?_; assumption) | apply LimI.drew_ | apply IsInt.drew_ | refine LimI.alloc_ ?_ _ | refine IsInt.alloc_ ?_ _ | (apply LimI.below; rotate_left; assumption) | (apply IsInt.below; rotate_left; assumption))))
  have HB9 := Lib.hid (show Below w.heap.size w w9 from (by repeat first | exact Below.refl _ _ | exact HB8.out | (with_reducible refine Below.trans ?_ (Below.mono (by with_reducible assumption) ?_)) | (with_reducible refine Below.alloc_ ?_ ?_ _) | (with_reducible refine Below.drew ?_) | (with_reducible refine Below.set2 ?_ ?_) | exact Nat.le_refl _ | omega | focus (simp <;> omega)))
  have hs9 : w.heap.size ≤ w9.heap.size := HB9.out.size
  clear K8_x K8_y x_8 y_8 s_8 HB8 hb9
  go_wp2_with fail
  refine Calls.mono (li_div_no (k := 1) (l := 1) (X := X) (IsInt.lim (k := 1) (Z := X) (by repeat (with_reducible first | assumption | (refine Hid.out ?_; assumption) | apply LimI.drew_ | apply IsInt.drew_ | refine LimI.alloc_ ?_ _ | refine IsInt.alloc_ ?_ _ | (apply LimI.below; rotate_left; assumption) | (apply IsInt.below; rotate_left; assumption))) HX.out) (by rw [← HY0.out]; exact (IsInt.lim (k := 1) (Z := Y) (by repeat (with_reducible first | assumption | (refine Hid.out ?_; assumption) | apply LimI.drew_ | apply IsInt.drew_ | refine LimI.alloc_ ?_ _ | refine IsInt.alloc_ ?_ _ | (apply LimI.below; rotate_left; assumption) | (apply IsInt.below; rotate_left; assumption))) HY.out)) (by omega) (by omega)) ?_
  rintro e w10 ⟨vq, vr, rfl, hq10, hr10, hb10⟩
  obtain ⟨bhq10, Ahq10, nhq10, chq10, rfl, -, -, hq10⟩ := hq10.form
  obtain ⟨bhr10, Ahr10, nhr10, chr10, rfl, -, -, hr10⟩ := hr10.form
  have hz10 : w9.heap.size ≤ w10.heap.size := (by have hz := hb10.size; (try simp at hz); omega)
  have k10_x := Blk.below (g := w2.heap.size) (t := 41) (cs := #[.bool bh2, .slice Ah2 nh2 ch2]) (by repeat (first | (with_reducible first | assumption | (refine Hid.out ?_; assumption) | apply Blk.drew_) | ((with_reducible refine Blk.new _ _ ?_ _ _) <;> (first | rfl | (simp; done))) | (with_reducible first | refine Blk.alloc_ ?_ _ | apply Blk.own2 | refine Blk.other2 ?_ (by omega) | (apply Blk.below; rotate_left; assumption)))) hb10
  have K10_x := Lib.hid k10_x; clear k10_x
  have k10_y := Blk.below (g := w3.heap.size) (t := 41) (cs := #[.bool bh3, .slice Ah3 nh3 ch3]) (by repeat (first | (with_reducible first | assumption | (refine Hid.out ?_; assumption) | apply Blk.drew_) | ((with_reducible refine Blk.new _ _ ?_ _ _) <;> (first | rfl | (simp; done))) | (with_reducible first | refine Blk.alloc_ ?_ _ | apply Blk.own2 | refine Blk.other2 ?_ (by omega) | (apply Blk.below; rotate_left; assumption)))) hb10
  have K10_y := Lib.hid k10_y; clear k10_y
  have x_10 := Lib.hid (show IsInt w10 (.agg #[.bool bh2, .slice Ah2 nh2 ch2]) X from (by repeat (with_reducible first | assumption | (refine Hid.out ?_; assumption) | apply LimI.drew_ | apply IsInt.drew_ | refine LimI.alloc_ ?_ _ | refine IsInt.alloc_ ?_ _ | (apply LimI.below; rotate_left; assumption) | (apply IsInt.below; rotate_left; assumption))))
  have y_10 := Lib.hid (show IsInt w10 (.agg #[.bool bh3, .slice Ah3 nh3 ch3]) Y from (by repeat (with_reducible first | assumption | (refine Hid.out ?_; assumption) | apply LimI.drew_ | apply IsInt.drew_ | refine LimI.alloc_ ?_ _ | refine IsInt.alloc_ ?_ _ | (apply LimI.below; rotate_left; assumption) | (apply IsInt.below; rotate_left; assumption))))
  have HB10 := Lib.hid (show Below w.heap.size w w10 from (by repeat first | exact Below.refl _ _ | exact HB9.out | (with_reducible refine Below.trans ?_ (Below.mono (by with_reducible assumption) ?_)) | (with_reducible refine Below.alloc_ ?_ ?_ _) | (with_reducible refine Below.drew ?_) | (with_reducible refine Below.set2 ?_ ?_) | exact Nat.le_refl _ | omega | focus (simp <;> omega)))
  have hs10 : w.heap.size ≤ w10.heap.size := HB10.out.size
  clear K9_x K9_y x_9 y_9 HB9 hb10
  go_wp2
  go_ret
  exact ⟨rfl, Below.alloc_ (Below.alloc_ HB10.out HB10.out.size _) (by simp; omega) _⟩

set_option maxRecDepth 100000 in
set_option maxHeartbeats 8000000 in
theorem wholeNumbers_even (X Y : Int) (w : World) (hx : -2147483648 ≤ X ∧ X ≤ 2147483647) (hy : -2147483648 ≤ Y ∧ Y ≤ 2147483647) (hY : Y ≠ 0) (t q r p : Int) (ht : X.tdiv Y = t) (hp : t * Y = p) (hf : FDiv X Y q r) (b1 : -2147483648 ≤ t) (b2 : t ≤ 2147483648) (b3 : -2147483648 ≤ p) (b4 : p ≤ 2147483648) (b5 : -2147483649 ≤ q) (b6 : q ≤ 2147483648) (b7 : -2147483648 ≤ r) (b8 : r ≤ 2147483648) (c1 : p = X) (c3 : q = t) (c4 : r = X - p) :
    Calls Try.prog 11 #[.int .i32 X, .int .i32 Y] w fun e w' => e = .returned (.bool true) ∧ Below w.heap.size w w' := by
  have MB := mul_b31 hx hy
  have HX : Hid (X.natAbs < 4294967296 ^ 1) := by show _ < _; omega
  have HY : Hid (Y.natAbs < 4294967296 ^ 1) := by show _ < _; omega
  have HA : Hid ((X + Y).natAbs < 4294967296 ^ 2) := by show _ < _; omega
  have HS : Hid ((X - Y).natAbs < 4294967296 ^ 2) := by show _ < _; omega
  have HM : Hid ((X * Y).natAbs < 4294967296 ^ 2) := by show _ < _; omega
  obtain ⟨hx1, hx2⟩ := hx
  obtain ⟨hy1, hy2⟩ := hy
  have B1 : Hid (-9223372036854775808 ≤ X ∧ X ≤ 9223372036854775807 ∧ -9223372036854775808 ≤ Y ∧ Y ≤ 9223372036854775807) := by show _ ∧ _; omega
  have B2 : Hid (-9223372036854775808 ≤ X + Y ∧ X + Y ≤ 9223372036854775807 ∧ -9223372036854775808 ≤ X - Y ∧ X - Y ≤ 9223372036854775807 ∧ -9223372036854775808 ≤ X * Y ∧ X * Y ≤ 9223372036854775807) := by show _ ∧ _; omega
  have wX : IntKind.i64.wrap X = X := IntWalk.i64_in _ (by omega)
  have wY : IntKind.i64.wrap Y = Y := IntWalk.i64_in _ (by omega)
  have wA : IntKind.i64.wrap (X + Y) = X + Y := IntWalk.i64_in _ (by omega)
  have wS : IntKind.i64.wrap (X - Y) = X - Y := IntWalk.i64_in _ (by omega)
  have wP : IntKind.i64.wrap (X * Y) = X * Y := IntWalk.i64_in _ (by omega)
  have y0 : (Y != 0) = true := by rw [bne_iff_ne]; exact hY
  have HY0 := Lib.hid hY
  have HF := Lib.hid hf
  have HT := Lib.hid ht
  have HPP := Lib.hid hp
  have HQ : Hid (q.natAbs < 4294967296 ^ 2) := by show _ < _; omega
  have HR : Hid (r.natAbs < 4294967296 ^ 2) := by show _ < _; omega
  have B3 : Hid (-9223372036854775808 ≤ q ∧ q ≤ 9223372036854775807 ∧ -9223372036854775808 ≤ r ∧ r ≤ 9223372036854775807) := by show _ ∧ _; omega
  have wt : IntKind.i64.wrap t = t := IntWalk.i64_in _ (by omega)
  have wp : IntKind.i64.wrap p = p := IntWalk.i64_in _ (by omega)
  have wxp : IntKind.i64.wrap (X - p) = X - p := IntWalk.i64_in _ (by omega)
  have c1' : (p != X) = false := by rw [c1]; simp
  have c1r := Lib.hid c1
  have c3r := Lib.hid c3
  have c4r := Lib.hid c4
  clear c1 c3 c4
  clear hf
  clear hY MB b1 b2 b3 b4 b5 b6 b7 b8
  go_enter Try.func11, Try.ntmps11
  go_wp2_with fail
  refine Calls.mono (awake2 _) ?_
  rintro e w1 ⟨rfl, hb1⟩
  have hz1 : w.heap.size ≤ w1.heap.size := (by have hz := hb1.size; (try simp at hz); omega)
  have HB1 := Lib.hid (show Below w.heap.size w w1 from (by repeat first | exact Below.refl _ _ | (with_reducible refine Below.trans ?_ (Below.mono (by with_reducible assumption) ?_)) | (with_reducible refine Below.alloc_ ?_ ?_ _) | (with_reducible refine Below.drew ?_) | (with_reducible refine Below.set2 ?_ ?_) | exact Nat.le_refl _ | omega | focus (simp <;> omega)))
  have hs1 : w.heap.size ≤ w1.heap.size := HB1.out.size
  clear hb1
  go_wp2_with fail
  refine Calls.mono (of_any X _ B1.out.1 B1.out.2.1) ?_
  rintro e w2 ⟨v2, rfl, h2, hb2⟩
  obtain ⟨bh2, Ah2, nh2, ch2, rfl, -, -, h2⟩ := h2.form
  have hz2 : w1.heap.size ≤ w2.heap.size := (by have hz := hb2.size; (try simp at hz); omega)
  have x_2 := Lib.hid (show IsInt w2 (.agg #[.bool bh2, .slice Ah2 nh2 ch2]) X from h2)
  have HB2 := Lib.hid (show Below w.heap.size w w2 from (by repeat first | exact Below.refl _ _ | exact HB1.out | (with_reducible refine Below.trans ?_ (Below.mono (by with_reducible assumption) ?_)) | (with_reducible refine Below.alloc_ ?_ ?_ _) | (with_reducible refine Below.drew ?_) | (with_reducible refine Below.set2 ?_ ?_) | exact Nat.le_refl _ | omega | focus (simp <;> omega)))
  have hs2 : w.heap.size ≤ w2.heap.size := HB2.out.size
  clear HB1 hb2
  go_wp2_with fail
  refine Calls.mono (of_any Y _ B1.out.2.2.1 B1.out.2.2.2) ?_
  rintro e w3 ⟨v3, rfl, h3, hb3⟩
  obtain ⟨bh3, Ah3, nh3, ch3, rfl, -, -, h3⟩ := h3.form
  have hz3 : w2.heap.size + 1 ≤ w3.heap.size := (by have hz := hb3.size; (try simp at hz); omega)
  have k3_x := Blk.below (g := w2.heap.size) (t := 41) (cs := #[.bool bh2, .slice Ah2 nh2 ch2]) (by repeat (first | (with_reducible first | assumption | (refine Hid.out ?_; assumption) | apply Blk.drew_) | ((with_reducible refine Blk.new _ _ ?_ _ _) <;> (first | rfl | (simp; done))) | (with_reducible first | refine Blk.alloc_ ?_ _ | apply Blk.own2 | refine Blk.other2 ?_ (by omega) | (apply Blk.below; rotate_left; assumption)))) hb3
  have p3_x := k3_x.cell0
  have d3_x : w2.heap.size < w3.heap.size := k3_x.lt
  have q3_x := k3_x.cell1
  have K3_x := Lib.hid k3_x; clear k3_x
  have x_3 := Lib.hid (show IsInt w3 (.agg #[.bool bh2, .slice Ah2 nh2 ch2]) X from (by repeat (with_reducible first | assumption | (refine Hid.out ?_; assumption) | apply LimI.drew_ | apply IsInt.drew_ | refine LimI.alloc_ ?_ _ | refine IsInt.alloc_ ?_ _ | (apply LimI.below; rotate_left; assumption) | (apply IsInt.below; rotate_left; assumption))))
  have y_3 := Lib.hid (show IsInt w3 (.agg #[.bool bh3, .slice Ah3 nh3 ch3]) Y from h3)
  have HB3 := Lib.hid (show Below w.heap.size w w3 from (by repeat first | exact Below.refl _ _ | exact HB2.out | (with_reducible refine Below.trans ?_ (Below.mono (by with_reducible assumption) ?_)) | (with_reducible refine Below.alloc_ ?_ ?_ _) | (with_reducible refine Below.drew ?_) | (with_reducible refine Below.set2 ?_ ?_) | exact Nat.le_refl _ | omega | focus (simp <;> omega)))
  have hs3 : w.heap.size ≤ w3.heap.size := HB3.out.size
  clear x_2 HB2 hb3
  go_wp2_with fail
  refine Calls.mono (li_add (k := 1) (l := 1) (X := X) (Y := Y) (IsInt.lim (k := 1) (Z := X) (by repeat (with_reducible first | assumption | (refine Hid.out ?_; assumption) | apply LimI.drew_ | apply IsInt.drew_ | refine LimI.alloc_ ?_ _ | refine IsInt.alloc_ ?_ _ | (apply LimI.below; rotate_left; assumption) | (apply IsInt.below; rotate_left; assumption))) HX.out) (IsInt.lim (k := 1) (Z := Y) (by repeat (with_reducible first | assumption | (refine Hid.out ?_; assumption) | apply LimI.drew_ | apply IsInt.drew_ | refine LimI.alloc_ ?_ _ | refine IsInt.alloc_ ?_ _ | (apply LimI.below; rotate_left; assumption) | (apply IsInt.below; rotate_left; assumption))) HY.out) (by omega) (by omega)) ?_
  rintro e w4 ⟨v4, rfl, h4, hb4⟩
  have hz4 : w3.heap.size + 1 ≤ w4.heap.size := (by have hz := hb4.size; (try simp at hz); omega)
  have k4_x := Blk.below (g := w2.heap.size) (t := 41) (cs := #[.bool bh2, .slice Ah2 nh2 ch2]) (by repeat (first | (with_reducible first | assumption | (refine Hid.out ?_; assumption) | apply Blk.drew_) | ((with_reducible refine Blk.new _ _ ?_ _ _) <;> (first | rfl | (simp; done))) | (with_reducible first | refine Blk.alloc_ ?_ _ | apply Blk.own2 | refine Blk.other2 ?_ (by omega) | (apply Blk.below; rotate_left; assumption)))) hb4
  have p4_x := k4_x.cell0
  have d4_x : w2.heap.size < w4.heap.size := k4_x.lt
  have q4_x := k4_x.cell1
  have K4_x := Lib.hid k4_x; clear k4_x
  have k4_y := Blk.below (g := w3.heap.size) (t := 41) (cs := #[.bool bh3, .slice Ah3 nh3 ch3]) (by repeat (first | (with_reducible first | assumption | (refine Hid.out ?_; assumption) | apply Blk.drew_) | ((with_reducible refine Blk.new _ _ ?_ _ _) <;> (first | rfl | (simp; done))) | (with_reducible first | refine Blk.alloc_ ?_ _ | apply Blk.own2 | refine Blk.other2 ?_ (by omega) | (apply Blk.below; rotate_left; assumption)))) hb4
  have p4_y := k4_y.cell0
  have d4_y : w3.heap.size < w4.heap.size := k4_y.lt
  have q4_y := k4_y.cell1
  have K4_y := Lib.hid k4_y; clear k4_y
  have x_4 := Lib.hid (show IsInt w4 (.agg #[.bool bh2, .slice Ah2 nh2 ch2]) X from (by repeat (with_reducible first | assumption | (refine Hid.out ?_; assumption) | apply LimI.drew_ | apply IsInt.drew_ | refine LimI.alloc_ ?_ _ | refine IsInt.alloc_ ?_ _ | (apply LimI.below; rotate_left; assumption) | (apply IsInt.below; rotate_left; assumption))))
  have y_4 := Lib.hid (show IsInt w4 (.agg #[.bool bh3, .slice Ah3 nh3 ch3]) Y from (by repeat (with_reducible first | assumption | (refine Hid.out ?_; assumption) | apply LimI.drew_ | apply IsInt.drew_ | refine LimI.alloc_ ?_ _ | refine IsInt.alloc_ ?_ _ | (apply LimI.below; rotate_left; assumption) | (apply IsInt.below; rotate_left; assumption))))
  have s_4 := Lib.hid (show IsInt w4 v4 (X + Y) from h4)
  have HB4 := Lib.hid (show Below w.heap.size w w4 from (by repeat first | exact Below.refl _ _ | exact HB3.out | (with_reducible refine Below.trans ?_ (Below.mono (by with_reducible assumption) ?_)) | (with_reducible refine Below.alloc_ ?_ ?_ _) | (with_reducible refine Below.drew ?_) | (with_reducible refine Below.set2 ?_ ?_) | exact Nat.le_refl _ | omega | focus (simp <;> omega)))
  have hs4 : w.heap.size ≤ w4.heap.size := HB4.out.size
  clear K3_x x_3 y_3 HB3 hb4
  go_wp2_with fail
  refine Calls.mono (li_small_is (k := 2) (X := X + Y) (IsInt.lim (k := 2) (Z := X + Y) (by repeat (with_reducible first | assumption | (refine Hid.out ?_; assumption) | apply LimI.drew_ | apply IsInt.drew_ | refine LimI.alloc_ ?_ _ | refine IsInt.alloc_ ?_ _ | (apply LimI.below; rotate_left; assumption) | (apply IsInt.below; rotate_left; assumption))) HA.out) (by omega) B2.out.1 B2.out.2.1) ?_
  rintro e w5 ⟨rfl, hb5⟩
  have hz5 : w4.heap.size ≤ w5.heap.size := (by have hz := hb5.size; (try simp at hz); omega)
  have k5_x := Blk.below (g := w2.heap.size) (t := 41) (cs := #[.bool bh2, .slice Ah2 nh2 ch2]) (by repeat (first | (with_reducible first | assumption | (refine Hid.out ?_; assumption) | apply Blk.drew_) | ((with_reducible refine Blk.new _ _ ?_ _ _) <;> (first | rfl | (simp; done))) | (with_reducible first | refine Blk.alloc_ ?_ _ | apply Blk.own2 | refine Blk.other2 ?_ (by omega) | (apply Blk.below; rotate_left; assumption)))) hb5
  have p5_x := k5_x.cell0
  have d5_x : w2.heap.size < w5.heap.size := k5_x.lt
  have q5_x := k5_x.cell1
  have K5_x := Lib.hid k5_x; clear k5_x
  have k5_y := Blk.below (g := w3.heap.size) (t := 41) (cs := #[.bool bh3, .slice Ah3 nh3 ch3]) (by repeat (first | (with_reducible first | assumption | (refine Hid.out ?_; assumption) | apply Blk.drew_) | ((with_reducible refine Blk.new _ _ ?_ _ _) <;> (first | rfl | (simp; done))) | (with_reducible first | refine Blk.alloc_ ?_ _ | apply Blk.own2 | refine Blk.other2 ?_ (by omega) | (apply Blk.below; rotate_left; assumption)))) hb5
  have p5_y := k5_y.cell0
  have d5_y : w3.heap.size < w5.heap.size := k5_y.lt
  have q5_y := k5_y.cell1
  have K5_y := Lib.hid k5_y; clear k5_y
  have x_5 := Lib.hid (show IsInt w5 (.agg #[.bool bh2, .slice Ah2 nh2 ch2]) X from (by repeat (with_reducible first | assumption | (refine Hid.out ?_; assumption) | apply LimI.drew_ | apply IsInt.drew_ | refine LimI.alloc_ ?_ _ | refine IsInt.alloc_ ?_ _ | (apply LimI.below; rotate_left; assumption) | (apply IsInt.below; rotate_left; assumption))))
  have y_5 := Lib.hid (show IsInt w5 (.agg #[.bool bh3, .slice Ah3 nh3 ch3]) Y from (by repeat (with_reducible first | assumption | (refine Hid.out ?_; assumption) | apply LimI.drew_ | apply IsInt.drew_ | refine LimI.alloc_ ?_ _ | refine IsInt.alloc_ ?_ _ | (apply LimI.below; rotate_left; assumption) | (apply IsInt.below; rotate_left; assumption))))
  have HB5 := Lib.hid (show Below w.heap.size w w5 from (by repeat first | exact Below.refl _ _ | exact HB4.out | (with_reducible refine Below.trans ?_ (Below.mono (by with_reducible assumption) ?_)) | (with_reducible refine Below.alloc_ ?_ ?_ _) | (with_reducible refine Below.drew ?_) | (with_reducible refine Below.set2 ?_ ?_) | exact Nat.le_refl _ | omega | focus (simp <;> omega)))
  have hs5 : w.heap.size ≤ w5.heap.size := HB5.out.size
  clear K4_x K4_y x_4 y_4 s_4 HB4 hb5
  go_wp2_with fail
  refine Calls.mono (li_sub (k := 1) (l := 1) (X := X) (Y := Y) (IsInt.lim (k := 1) (Z := X) (by repeat (with_reducible first | assumption | (refine Hid.out ?_; assumption) | apply LimI.drew_ | apply IsInt.drew_ | refine LimI.alloc_ ?_ _ | refine IsInt.alloc_ ?_ _ | (apply LimI.below; rotate_left; assumption) | (apply IsInt.below; rotate_left; assumption))) HX.out) (IsInt.lim (k := 1) (Z := Y) (by repeat (with_reducible first | assumption | (refine Hid.out ?_; assumption) | apply LimI.drew_ | apply IsInt.drew_ | refine LimI.alloc_ ?_ _ | refine IsInt.alloc_ ?_ _ | (apply LimI.below; rotate_left; assumption) | (apply IsInt.below; rotate_left; assumption))) HY.out) (by omega) (by omega)) ?_
  rintro e w6 ⟨v6, rfl, h6, hb6⟩
  have hz6 : w5.heap.size ≤ w6.heap.size := (by have hz := hb6.size; (try simp at hz); omega)
  have k6_x := Blk.below (g := w2.heap.size) (t := 41) (cs := #[.bool bh2, .slice Ah2 nh2 ch2]) (by repeat (first | (with_reducible first | assumption | (refine Hid.out ?_; assumption) | apply Blk.drew_) | ((with_reducible refine Blk.new _ _ ?_ _ _) <;> (first | rfl | (simp; done))) | (with_reducible first | refine Blk.alloc_ ?_ _ | apply Blk.own2 | refine Blk.other2 ?_ (by omega) | (apply Blk.below; rotate_left; assumption)))) hb6
  have p6_x := k6_x.cell0
  have d6_x : w2.heap.size < w6.heap.size := k6_x.lt
  have q6_x := k6_x.cell1
  have K6_x := Lib.hid k6_x; clear k6_x
  have k6_y := Blk.below (g := w3.heap.size) (t := 41) (cs := #[.bool bh3, .slice Ah3 nh3 ch3]) (by repeat (first | (with_reducible first | assumption | (refine Hid.out ?_; assumption) | apply Blk.drew_) | ((with_reducible refine Blk.new _ _ ?_ _ _) <;> (first | rfl | (simp; done))) | (with_reducible first | refine Blk.alloc_ ?_ _ | apply Blk.own2 | refine Blk.other2 ?_ (by omega) | (apply Blk.below; rotate_left; assumption)))) hb6
  have p6_y := k6_y.cell0
  have d6_y : w3.heap.size < w6.heap.size := k6_y.lt
  have q6_y := k6_y.cell1
  have K6_y := Lib.hid k6_y; clear k6_y
  have x_6 := Lib.hid (show IsInt w6 (.agg #[.bool bh2, .slice Ah2 nh2 ch2]) X from (by repeat (with_reducible first | assumption | (refine Hid.out ?_; assumption) | apply LimI.drew_ | apply IsInt.drew_ | refine LimI.alloc_ ?_ _ | refine IsInt.alloc_ ?_ _ | (apply LimI.below; rotate_left; assumption) | (apply IsInt.below; rotate_left; assumption))))
  have y_6 := Lib.hid (show IsInt w6 (.agg #[.bool bh3, .slice Ah3 nh3 ch3]) Y from (by repeat (with_reducible first | assumption | (refine Hid.out ?_; assumption) | apply LimI.drew_ | apply IsInt.drew_ | refine LimI.alloc_ ?_ _ | refine IsInt.alloc_ ?_ _ | (apply LimI.below; rotate_left; assumption) | (apply IsInt.below; rotate_left; assumption))))
  have s_6 := Lib.hid (show IsInt w6 v6 (X - Y) from h6)
  have HB6 := Lib.hid (show Below w.heap.size w w6 from (by repeat first | exact Below.refl _ _ | exact HB5.out | (with_reducible refine Below.trans ?_ (Below.mono (by with_reducible assumption) ?_)) | (with_reducible refine Below.alloc_ ?_ ?_ _) | (with_reducible refine Below.drew ?_) | (with_reducible refine Below.set2 ?_ ?_) | exact Nat.le_refl _ | omega | focus (simp <;> omega)))
  have hs6 : w.heap.size ≤ w6.heap.size := HB6.out.size
  clear K5_x K5_y x_5 y_5 HB5 hb6
  go_wp2_with fail
  refine Calls.mono (li_small_is (k := 2) (X := X - Y) (IsInt.lim (k := 2) (Z := X - Y) (by repeat (with_reducible first | assumption | (refine Hid.out ?_; assumption) | apply LimI.drew_ | apply IsInt.drew_ | refine LimI.alloc_ ?_ _ | refine IsInt.alloc_ ?_ _ | (apply LimI.below; rotate_left; assumption) | (apply IsInt.below; rotate_left; assumption))) HS.out) (by omega) B2.out.2.2.1 B2.out.2.2.2.1) ?_
  rintro e w7 ⟨rfl, hb7⟩
  have hz7 : w6.heap.size ≤ w7.heap.size := (by have hz := hb7.size; (try simp at hz); omega)
  have k7_x := Blk.below (g := w2.heap.size) (t := 41) (cs := #[.bool bh2, .slice Ah2 nh2 ch2]) (by repeat (first | (with_reducible first | assumption | (refine Hid.out ?_; assumption) | apply Blk.drew_) | ((with_reducible refine Blk.new _ _ ?_ _ _) <;> (first | rfl | (simp; done))) | (with_reducible first | refine Blk.alloc_ ?_ _ | apply Blk.own2 | refine Blk.other2 ?_ (by omega) | (apply Blk.below; rotate_left; assumption)))) hb7
  have p7_x := k7_x.cell0
  have d7_x : w2.heap.size < w7.heap.size := k7_x.lt
  have q7_x := k7_x.cell1
  have K7_x := Lib.hid k7_x; clear k7_x
  have k7_y := Blk.below (g := w3.heap.size) (t := 41) (cs := #[.bool bh3, .slice Ah3 nh3 ch3]) (by repeat (first | (with_reducible first | assumption | (refine Hid.out ?_; assumption) | apply Blk.drew_) | ((with_reducible refine Blk.new _ _ ?_ _ _) <;> (first | rfl | (simp; done))) | (with_reducible first | refine Blk.alloc_ ?_ _ | apply Blk.own2 | refine Blk.other2 ?_ (by omega) | (apply Blk.below; rotate_left; assumption)))) hb7
  have p7_y := k7_y.cell0
  have d7_y : w3.heap.size < w7.heap.size := k7_y.lt
  have q7_y := k7_y.cell1
  have K7_y := Lib.hid k7_y; clear k7_y
  have x_7 := Lib.hid (show IsInt w7 (.agg #[.bool bh2, .slice Ah2 nh2 ch2]) X from (by repeat (with_reducible first | assumption | (refine Hid.out ?_; assumption) | apply LimI.drew_ | apply IsInt.drew_ | refine LimI.alloc_ ?_ _ | refine IsInt.alloc_ ?_ _ | (apply LimI.below; rotate_left; assumption) | (apply IsInt.below; rotate_left; assumption))))
  have y_7 := Lib.hid (show IsInt w7 (.agg #[.bool bh3, .slice Ah3 nh3 ch3]) Y from (by repeat (with_reducible first | assumption | (refine Hid.out ?_; assumption) | apply LimI.drew_ | apply IsInt.drew_ | refine LimI.alloc_ ?_ _ | refine IsInt.alloc_ ?_ _ | (apply LimI.below; rotate_left; assumption) | (apply IsInt.below; rotate_left; assumption))))
  have HB7 := Lib.hid (show Below w.heap.size w w7 from (by repeat first | exact Below.refl _ _ | exact HB6.out | (with_reducible refine Below.trans ?_ (Below.mono (by with_reducible assumption) ?_)) | (with_reducible refine Below.alloc_ ?_ ?_ _) | (with_reducible refine Below.drew ?_) | (with_reducible refine Below.set2 ?_ ?_) | exact Nat.le_refl _ | omega | focus (simp <;> omega)))
  have hs7 : w.heap.size ≤ w7.heap.size := HB7.out.size
  clear K6_x K6_y x_6 y_6 s_6 HB6 hb7
  go_wp2_with fail
  refine Calls.mono (li_mul (k := 1) (l := 1) (X := X) (Y := Y) (IsInt.lim (k := 1) (Z := X) (by repeat (with_reducible first | assumption | (refine Hid.out ?_; assumption) | apply LimI.drew_ | apply IsInt.drew_ | refine LimI.alloc_ ?_ _ | refine IsInt.alloc_ ?_ _ | (apply LimI.below; rotate_left; assumption) | (apply IsInt.below; rotate_left; assumption))) HX.out) (IsInt.lim (k := 1) (Z := Y) (by repeat (with_reducible first | assumption | (refine Hid.out ?_; assumption) | apply LimI.drew_ | apply IsInt.drew_ | refine LimI.alloc_ ?_ _ | refine IsInt.alloc_ ?_ _ | (apply LimI.below; rotate_left; assumption) | (apply IsInt.below; rotate_left; assumption))) HY.out) (by omega) (by omega)) ?_
  rintro e w8 ⟨v8, rfl, h8, hb8⟩
  have hz8 : w7.heap.size ≤ w8.heap.size := (by have hz := hb8.size; (try simp at hz); omega)
  have k8_x := Blk.below (g := w2.heap.size) (t := 41) (cs := #[.bool bh2, .slice Ah2 nh2 ch2]) (by repeat (first | (with_reducible first | assumption | (refine Hid.out ?_; assumption) | apply Blk.drew_) | ((with_reducible refine Blk.new _ _ ?_ _ _) <;> (first | rfl | (simp; done))) | (with_reducible first | refine Blk.alloc_ ?_ _ | apply Blk.own2 | refine Blk.other2 ?_ (by omega) | (apply Blk.below; rotate_left; assumption)))) hb8
  have p8_x := k8_x.cell0
  have d8_x : w2.heap.size < w8.heap.size := k8_x.lt
  have q8_x := k8_x.cell1
  have K8_x := Lib.hid k8_x; clear k8_x
  have k8_y := Blk.below (g := w3.heap.size) (t := 41) (cs := #[.bool bh3, .slice Ah3 nh3 ch3]) (by repeat (first | (with_reducible first | assumption | (refine Hid.out ?_; assumption) | apply Blk.drew_) | ((with_reducible refine Blk.new _ _ ?_ _ _) <;> (first | rfl | (simp; done))) | (with_reducible first | refine Blk.alloc_ ?_ _ | apply Blk.own2 | refine Blk.other2 ?_ (by omega) | (apply Blk.below; rotate_left; assumption)))) hb8
  have p8_y := k8_y.cell0
  have d8_y : w3.heap.size < w8.heap.size := k8_y.lt
  have q8_y := k8_y.cell1
  have K8_y := Lib.hid k8_y; clear k8_y
  have x_8 := Lib.hid (show IsInt w8 (.agg #[.bool bh2, .slice Ah2 nh2 ch2]) X from (by repeat (with_reducible first | assumption | (refine Hid.out ?_; assumption) | apply LimI.drew_ | apply IsInt.drew_ | refine LimI.alloc_ ?_ _ | refine IsInt.alloc_ ?_ _ | (apply LimI.below; rotate_left; assumption) | (apply IsInt.below; rotate_left; assumption))))
  have y_8 := Lib.hid (show IsInt w8 (.agg #[.bool bh3, .slice Ah3 nh3 ch3]) Y from (by repeat (with_reducible first | assumption | (refine Hid.out ?_; assumption) | apply LimI.drew_ | apply IsInt.drew_ | refine LimI.alloc_ ?_ _ | refine IsInt.alloc_ ?_ _ | (apply LimI.below; rotate_left; assumption) | (apply IsInt.below; rotate_left; assumption))))
  have s_8 := Lib.hid (show IsInt w8 v8 (X * Y) from h8)
  have HB8 := Lib.hid (show Below w.heap.size w w8 from (by repeat first | exact Below.refl _ _ | exact HB7.out | (with_reducible refine Below.trans ?_ (Below.mono (by with_reducible assumption) ?_)) | (with_reducible refine Below.alloc_ ?_ ?_ _) | (with_reducible refine Below.drew ?_) | (with_reducible refine Below.set2 ?_ ?_) | exact Nat.le_refl _ | omega | focus (simp <;> omega)))
  have hs8 : w.heap.size ≤ w8.heap.size := HB8.out.size
  clear K7_x K7_y x_7 y_7 HB7 hb8
  go_wp2_with fail
  refine Calls.mono (li_small_is (k := 2) (X := X * Y) (IsInt.lim (k := 2) (Z := X * Y) (by repeat (with_reducible first | assumption | (refine Hid.out ?_; assumption) | apply LimI.drew_ | apply IsInt.drew_ | refine LimI.alloc_ ?_ _ | refine IsInt.alloc_ ?_ _ | (apply LimI.below; rotate_left; assumption) | (apply IsInt.below; rotate_left; assumption))) HM.out) (by omega) B2.out.2.2.2.2.1 B2.out.2.2.2.2.2) ?_
  rintro e w9 ⟨rfl, hb9⟩
  have hz9 : w8.heap.size ≤ w9.heap.size := (by have hz := hb9.size; (try simp at hz); omega)
  have k9_x := Blk.below (g := w2.heap.size) (t := 41) (cs := #[.bool bh2, .slice Ah2 nh2 ch2]) (by repeat (first | (with_reducible first | assumption | (refine Hid.out ?_; assumption) | apply Blk.drew_) | ((with_reducible refine Blk.new _ _ ?_ _ _) <;> (first | rfl | (simp; done))) | (with_reducible first | refine Blk.alloc_ ?_ _ | apply Blk.own2 | refine Blk.other2 ?_ (by omega) | (apply Blk.below; rotate_left; assumption)))) hb9
  have p9_x := k9_x.cell0
  have d9_x : w2.heap.size < w9.heap.size := k9_x.lt
  have q9_x := k9_x.cell1
  have K9_x := Lib.hid k9_x; clear k9_x
  have k9_y := Blk.below (g := w3.heap.size) (t := 41) (cs := #[.bool bh3, .slice Ah3 nh3 ch3]) (by repeat (first | (with_reducible first | assumption | (refine Hid.out ?_; assumption) | apply Blk.drew_) | ((with_reducible refine Blk.new _ _ ?_ _ _) <;> (first | rfl | (simp; done))) | (with_reducible first | refine Blk.alloc_ ?_ _ | apply Blk.own2 | refine Blk.other2 ?_ (by omega) | (apply Blk.below; rotate_left; assumption)))) hb9
  have p9_y := k9_y.cell0
  have d9_y : w3.heap.size < w9.heap.size := k9_y.lt
  have q9_y := k9_y.cell1
  have K9_y := Lib.hid k9_y; clear k9_y
  have x_9 := Lib.hid (show IsInt w9 (.agg #[.bool bh2, .slice Ah2 nh2 ch2]) X from (by repeat (with_reducible first | assumption | (refine Hid.out ?_; assumption) | apply LimI.drew_ | apply IsInt.drew_ | refine LimI.alloc_ ?_ _ | refine IsInt.alloc_ ?_ _ | (apply LimI.below; rotate_left; assumption) | (apply IsInt.below; rotate_left; assumption))))
  have y_9 := Lib.hid (show IsInt w9 (.agg #[.bool bh3, .slice Ah3 nh3 ch3]) Y from (by repeat (with_reducible first | assumption | (refine Hid.out ?_; assumption) | apply LimI.drew_ | apply IsInt.drew_ | refine LimI.alloc_ ?_ _ | refine IsInt.alloc_ ?_ _ | (apply LimI.below; rotate_left; assumption) | (apply IsInt.below; rotate_left; assumption))))
  have HB9 := Lib.hid (show Below w.heap.size w w9 from (by repeat first | exact Below.refl _ _ | exact HB8.out | (with_reducible refine Below.trans ?_ (Below.mono (by with_reducible assumption) ?_)) | (with_reducible refine Below.alloc_ ?_ ?_ _) | (with_reducible refine Below.drew ?_) | (with_reducible refine Below.set2 ?_ ?_) | exact Nat.le_refl _ | omega | focus (simp <;> omega)))
  have hs9 : w.heap.size ≤ w9.heap.size := HB9.out.size
  clear K8_x K8_y x_8 y_8 s_8 HB8 hb9
  go_wp2_with fail
  refine Calls.mono (li_div_is (k := 1) (l := 1) (X := X) (Y := Y) q r HF.out (IsInt.lim (k := 1) (Z := X) (by repeat (with_reducible first | assumption | (refine Hid.out ?_; assumption) | apply LimI.drew_ | apply IsInt.drew_ | refine LimI.alloc_ ?_ _ | refine IsInt.alloc_ ?_ _ | (apply LimI.below; rotate_left; assumption) | (apply IsInt.below; rotate_left; assumption))) HX.out) (IsInt.lim (k := 1) (Z := Y) (by repeat (with_reducible first | assumption | (refine Hid.out ?_; assumption) | apply LimI.drew_ | apply IsInt.drew_ | refine LimI.alloc_ ?_ _ | refine IsInt.alloc_ ?_ _ | (apply LimI.below; rotate_left; assumption) | (apply IsInt.below; rotate_left; assumption))) HY.out) (by omega) (by omega) HY0.out) ?_
  rintro e w10 ⟨vq, vr, rfl, hq10, hr10, hb10⟩
  obtain ⟨bhq10, Ahq10, nhq10, chq10, rfl, -, -, hq10⟩ := hq10.form
  obtain ⟨bhr10, Ahr10, nhr10, chr10, rfl, -, -, hr10⟩ := hr10.form
  have hz10 : w9.heap.size ≤ w10.heap.size := (by have hz := hb10.size; (try simp at hz); omega)
  have k10_x := Blk.below (g := w2.heap.size) (t := 41) (cs := #[.bool bh2, .slice Ah2 nh2 ch2]) (by repeat (first | (with_reducible first | assumption | (refine Hid.out ?_; assumption) | apply Blk.drew_) | ((with_reducible refine Blk.new _ _ ?_ _ _) <;> (first | rfl | (simp; done))) | (with_reducible first | refine Blk.alloc_ ?_ _ | apply Blk.own2 | refine Blk.other2 ?_ (by omega) | (apply Blk.below; rotate_left; assumption)))) hb10
  have K10_x := Lib.hid k10_x; clear k10_x
  have k10_y := Blk.below (g := w3.heap.size) (t := 41) (cs := #[.bool bh3, .slice Ah3 nh3 ch3]) (by repeat (first | (with_reducible first | assumption | (refine Hid.out ?_; assumption) | apply Blk.drew_) | ((with_reducible refine Blk.new _ _ ?_ _ _) <;> (first | rfl | (simp; done))) | (with_reducible first | refine Blk.alloc_ ?_ _ | apply Blk.own2 | refine Blk.other2 ?_ (by omega) | (apply Blk.below; rotate_left; assumption)))) hb10
  have K10_y := Lib.hid k10_y; clear k10_y
  have x_10 := Lib.hid (show IsInt w10 (.agg #[.bool bh2, .slice Ah2 nh2 ch2]) X from (by repeat (with_reducible first | assumption | (refine Hid.out ?_; assumption) | apply LimI.drew_ | apply IsInt.drew_ | refine LimI.alloc_ ?_ _ | refine IsInt.alloc_ ?_ _ | (apply LimI.below; rotate_left; assumption) | (apply IsInt.below; rotate_left; assumption))))
  have y_10 := Lib.hid (show IsInt w10 (.agg #[.bool bh3, .slice Ah3 nh3 ch3]) Y from (by repeat (with_reducible first | assumption | (refine Hid.out ?_; assumption) | apply LimI.drew_ | apply IsInt.drew_ | refine LimI.alloc_ ?_ _ | refine IsInt.alloc_ ?_ _ | (apply LimI.below; rotate_left; assumption) | (apply IsInt.below; rotate_left; assumption))))
  have q_10 := Lib.hid (show IsInt w10 (.agg #[.bool bhq10, .slice Ahq10 nhq10 chq10]) q from hq10)
  have r_10 := Lib.hid (show IsInt w10 (.agg #[.bool bhr10, .slice Ahr10 nhr10 chr10]) r from hr10)
  have HB10 := Lib.hid (show Below w.heap.size w w10 from (by repeat first | exact Below.refl _ _ | exact HB9.out | (with_reducible refine Below.trans ?_ (Below.mono (by with_reducible assumption) ?_)) | (with_reducible refine Below.alloc_ ?_ ?_ _) | (with_reducible refine Below.drew ?_) | (with_reducible refine Below.set2 ?_ ?_) | exact Nat.le_refl _ | omega | focus (simp <;> omega)))
  have hs10 : w.heap.size ≤ w10.heap.size := HB10.out.size
  clear K9_x K9_y x_9 y_9 HB9 hb10
  go_wp2_with fail
  refine Calls.mono (li_small_at (k := 2) (X := q) (t) c3r.out (IsInt.lim (k := 2) (Z := q) (by repeat (with_reducible first | assumption | (refine Hid.out ?_; assumption) | apply LimI.drew_ | apply IsInt.drew_ | refine LimI.alloc_ ?_ _ | refine IsInt.alloc_ ?_ _ | (apply LimI.below; rotate_left; assumption) | (apply IsInt.below; rotate_left; assumption))) HQ.out) (by omega) B3.out.1 B3.out.2.1) ?_
  rintro e w11 ⟨rfl, hb11⟩
  have hz11 : w10.heap.size + 2 ≤ w11.heap.size := (by have hz := hb11.size; (try simp at hz); omega)
  have k11_q := Blk.below (g := w10.heap.size) (t := 41) (cs := #[.bool bhq10, .slice Ahq10 nhq10 chq10]) (by repeat (first | (with_reducible first | assumption | (refine Hid.out ?_; assumption) | apply Blk.drew_) | ((with_reducible refine Blk.new _ _ ?_ _ _) <;> (first | rfl | (simp; done))) | (with_reducible first | refine Blk.alloc_ ?_ _ | apply Blk.own2 | refine Blk.other2 ?_ (by omega) | (apply Blk.below; rotate_left; assumption)))) hb11
  have p11_q := k11_q.cell0
  have d11_q : w10.heap.size < w11.heap.size := k11_q.lt
  have q11_q := k11_q.cell1
  have K11_q := Lib.hid k11_q; clear k11_q
  have k11_r := Blk.below (g := w10.heap.size + 1) (t := 41) (cs := #[.bool bhr10, .slice Ahr10 nhr10 chr10]) (by repeat (first | (with_reducible first | assumption | (refine Hid.out ?_; assumption) | apply Blk.drew_) | ((with_reducible refine Blk.new _ _ ?_ _ _) <;> (first | rfl | (simp; done))) | (with_reducible first | refine Blk.alloc_ ?_ _ | apply Blk.own2 | refine Blk.other2 ?_ (by omega) | (apply Blk.below; rotate_left; assumption)))) hb11
  have p11_r := k11_r.cell0
  have d11_r : w10.heap.size + 1 < w11.heap.size := k11_r.lt
  have q11_r := k11_r.cell1
  have K11_r := Lib.hid k11_r; clear k11_r
  have q_11 := Lib.hid (show IsInt w11 (.agg #[.bool bhq10, .slice Ahq10 nhq10 chq10]) q from (by repeat (with_reducible first | assumption | (refine Hid.out ?_; assumption) | apply LimI.drew_ | apply IsInt.drew_ | refine LimI.alloc_ ?_ _ | refine IsInt.alloc_ ?_ _ | (apply LimI.below; rotate_left; assumption) | (apply IsInt.below; rotate_left; assumption))))
  have r_11 := Lib.hid (show IsInt w11 (.agg #[.bool bhr10, .slice Ahr10 nhr10 chr10]) r from (by repeat (with_reducible first | assumption | (refine Hid.out ?_; assumption) | apply LimI.drew_ | apply IsInt.drew_ | refine LimI.alloc_ ?_ _ | refine IsInt.alloc_ ?_ _ | (apply LimI.below; rotate_left; assumption) | (apply IsInt.below; rotate_left; assumption))))
  have HB11 := Lib.hid (show Below w.heap.size w w11 from (by repeat first | exact Below.refl _ _ | exact HB10.out | (with_reducible refine Below.trans ?_ (Below.mono (by with_reducible assumption) ?_)) | (with_reducible refine Below.alloc_ ?_ ?_ _) | (with_reducible refine Below.drew ?_) | (with_reducible refine Below.set2 ?_ ?_) | exact Nat.le_refl _ | omega | focus (simp <;> omega)))
  have hs11 : w.heap.size ≤ w11.heap.size := HB11.out.size
  clear K10_x K10_y x_10 y_10 q_10 r_10 HB10 hb11
  go_wp2_with fail
  refine Calls.mono (li_small_at (k := 2) (X := r) (X - p) c4r.out (IsInt.lim (k := 2) (Z := r) (by repeat (with_reducible first | assumption | (refine Hid.out ?_; assumption) | apply LimI.drew_ | apply IsInt.drew_ | refine LimI.alloc_ ?_ _ | refine IsInt.alloc_ ?_ _ | (apply LimI.below; rotate_left; assumption) | (apply IsInt.below; rotate_left; assumption))) HR.out) (by omega) B3.out.2.2.1 B3.out.2.2.2) ?_
  rintro e w12 ⟨rfl, hb12⟩
  have hz12 : w11.heap.size ≤ w12.heap.size := (by have hz := hb12.size; (try simp at hz); omega)
  have k12_q := Blk.below (g := w10.heap.size) (t := 41) (cs := #[.bool bhq10, .slice Ahq10 nhq10 chq10]) (by repeat (first | (with_reducible first | assumption | (refine Hid.out ?_; assumption) | apply Blk.drew_) | ((with_reducible refine Blk.new _ _ ?_ _ _) <;> (first | rfl | (simp; done))) | (with_reducible first | refine Blk.alloc_ ?_ _ | apply Blk.own2 | refine Blk.other2 ?_ (by omega) | (apply Blk.below; rotate_left; assumption)))) hb12
  have p12_q := k12_q.cell0
  have d12_q : w10.heap.size < w12.heap.size := k12_q.lt
  have q12_q := k12_q.cell1
  have K12_q := Lib.hid k12_q; clear k12_q
  have k12_r := Blk.below (g := w10.heap.size + 1) (t := 41) (cs := #[.bool bhr10, .slice Ahr10 nhr10 chr10]) (by repeat (first | (with_reducible first | assumption | (refine Hid.out ?_; assumption) | apply Blk.drew_) | ((with_reducible refine Blk.new _ _ ?_ _ _) <;> (first | rfl | (simp; done))) | (with_reducible first | refine Blk.alloc_ ?_ _ | apply Blk.own2 | refine Blk.other2 ?_ (by omega) | (apply Blk.below; rotate_left; assumption)))) hb12
  have p12_r := k12_r.cell0
  have d12_r : w10.heap.size + 1 < w12.heap.size := k12_r.lt
  have q12_r := k12_r.cell1
  have K12_r := Lib.hid k12_r; clear k12_r
  have q_12 := Lib.hid (show IsInt w12 (.agg #[.bool bhq10, .slice Ahq10 nhq10 chq10]) q from (by repeat (with_reducible first | assumption | (refine Hid.out ?_; assumption) | apply LimI.drew_ | apply IsInt.drew_ | refine LimI.alloc_ ?_ _ | refine IsInt.alloc_ ?_ _ | (apply LimI.below; rotate_left; assumption) | (apply IsInt.below; rotate_left; assumption))))
  have r_12 := Lib.hid (show IsInt w12 (.agg #[.bool bhr10, .slice Ahr10 nhr10 chr10]) r from (by repeat (with_reducible first | assumption | (refine Hid.out ?_; assumption) | apply LimI.drew_ | apply IsInt.drew_ | refine LimI.alloc_ ?_ _ | refine IsInt.alloc_ ?_ _ | (apply LimI.below; rotate_left; assumption) | (apply IsInt.below; rotate_left; assumption))))
  have HB12 := Lib.hid (show Below w.heap.size w w12 from (by repeat first | exact Below.refl _ _ | exact HB11.out | (with_reducible refine Below.trans ?_ (Below.mono (by with_reducible assumption) ?_)) | (with_reducible refine Below.alloc_ ?_ ?_ _) | (with_reducible refine Below.drew ?_) | (with_reducible refine Below.set2 ?_ ?_) | exact Nat.le_refl _ | omega | focus (simp <;> omega)))
  have hs12 : w.heap.size ≤ w12.heap.size := HB12.out.size
  clear K11_q K11_r q_11 r_11 HB11 hb12
  go_wp2
  go_ret
  exact ⟨by simp, HB12.out⟩
end Go.Proofs.Ythndfmpnfgbioaa
