/- WholeSmall: the walk. -/
import Derived.Test.YthndfmpnfgbioaaWp
namespace Go.Proofs.Ythndfmpnfgbioaa
open Go.RowKit
attribute [local go_sem ↓] Go.wp_at_zero Go.wp_at_succ
set_option linter.unusedVariables false
set_option linter.unusedSimpArgs false

theorem LimI.mag {k : Nat} {w : World} {b : Bool} {m : Value} {Z : Int} (h : LimI k w (.agg #[.bool b, m]) Z) : Lim k w m Z.natAbs := by
  obtain ⟨b', m', N, e, h1, rfl⟩ := h
  injection e with e
  simp at e
  obtain ⟨rfl, rfl⟩ := e
  rw [sg_abs]
  exact h1
theorem IsInt.mag {w : World} {b : Bool} {m : Value} {Z : Int} (h : IsInt w (.agg #[.bool b, m]) Z) : IsNat w m Z.natAbs := by
  obtain ⟨m', e, h1⟩ := h
  injection e with e
  simp at e
  obtain ⟨-, rfl⟩ := e
  exact h1
theorem rCmp_less {k m : Nat} {w : World} {v1 v2 : Value} {N M : Nat} (hr : N < M) (h1 : Lim k w v1 N) (h2 : Lim m w v2 M) (hk : k ≤ 1000000) (hm : m ≤ 1000000) : Calls Try.prog 52 #[v1, v2] w fun e w' => e = .returned (.int .i64 (-1)) ∧ Below w.heap.size w w' := by
  have := rCmp h1 h2 hk hm
  unfold CmpPost at this
  rwa [cmpN_lt hr] at this
theorem li_small_val {k : Nat} {w : World} {v : Value} {X : Int} (h : LimI k w v X) (hk : k ≤ 1000000) : Calls Try.prog 47 #[v] w fun e w' => e = .returned (.tuple #[.int .i64 (smallN X), .bool (smallB X)]) ∧ Below w.heap.size w w' := li_small h hk
theorem li_rsmall_val {k : Nat} {w : World} {v : Value} {X : Int} (h : LimI k w v X) (hk : k ≤ 100000) : Calls Try.prog 48 #[v] w fun e w' => e = .returned (.tuple #[.int .i64 (smallN X), .bool (smallB X)]) ∧ Below w.heap.size w w' := li_rsmall h hk
set_option maxRecDepth 100000 in
set_option maxHeartbeats 8000000 in
theorem wholeSmall_none (nn q r : Int) (b0 : Bool) (A0 : Option Addr) (n0 c0 : Nat) (b1 : Bool) (A1 : Option Addr) (n1 c1 : Nat) (X0 X1 : Int) (w : World) (hn0 : n0 ≤ 14) (h0 : LimI 14 w (.agg #[.bool b0, .slice A0 n0 c0]) X0) (hn1 : n1 ≤ 14) (h1 : LimI 14 w (.agg #[.bool b1, .slice A1 n1 c1]) X1) (hv1 : -9223372036854775808 ≤ nn) (hv2 : nn ≤ 9223372036854775807) (hq : q.natAbs ≤ X0.natAbs) (D1 : ∀ (k l : Nat) (w : World) (v v' : Value), LimI k w v X0 → LimI l w v' X1 → k ≤ 100000 → l ≤ 100000 → Calls Try.prog 34 #[v, v'] w fun e w' => DivAny w w' e false q r) :
    Calls Try.prog 7 #[.int .i64 nn, .agg #[.bool b0, .slice A0 n0 c0], .agg #[.bool b1, .slice A1 n1 c1]] w fun e w' => e = .returned (.bool true) ∧ Below w.heap.size w w' := by
  have G0 : Hid (true = decide ((n0 : Int) ≤ 14)) := (decide_eq_true (by omega)).symm
  have HX0 := Lib.hid h0.lt
  have H0 := Lib.hid h0
  have G1 : Hid (true = decide ((n1 : Int) ≤ 14)) := (decide_eq_true (by omega)).symm
  have HX1 := Lib.hid h1.lt
  have H1 := Lib.hid h1
  have HV : Hid (-9223372036854775808 ≤ nn ∧ nn ≤ 9223372036854775807) := ⟨hv1, hv2⟩
  have HNN : Hid (nn.natAbs < 4294967296 ^ 2) := by show _ < _; omega
  have HQ : Hid (q.natAbs < 4294967296 ^ 14) := Nat.lt_of_le_of_lt hq HX0.out
  have HD1 := Lib.hid D1
  clear hq D1 hv1 hv2
  clear hn0 h0 hn1 h1
  go_enter Try.func7, Try.ntmps7
  go_wp2_with fail
  refine Calls.mono (awake2 _) ?_
  rintro e w1 ⟨rfl, hb1⟩
  have hz1 : w.heap.size + 1 + 1 ≤ w1.heap.size := (by have hz := hb1.size; (try simp at hz); omega)
  have k1_a0 := Blk.below (g := w.heap.size) (t := 41) (cs := #[.bool b0, .slice A0 n0 c0]) (by repeat (first | (with_reducible first | assumption | (refine Hid.out ?_; assumption) | apply Blk.drew_) | ((with_reducible refine Blk.new _ _ ?_ _ _) <;> (first | rfl | (simp; done))) | (with_reducible first | refine Blk.alloc_ ?_ _ | apply Blk.own2 | refine Blk.other2 ?_ (by omega) | (apply Blk.below; rotate_left; assumption)))) hb1
  have p1_a0 := k1_a0.cell0
  have d1_a0 : w.heap.size < w1.heap.size := k1_a0.lt
  have q1_a0 := k1_a0.cell1
  have K1_a0 := Lib.hid k1_a0; clear k1_a0
  have k1_a1 := Blk.below (g := w.heap.size + 1) (t := 41) (cs := #[.bool b1, .slice A1 n1 c1]) (by repeat (first | (with_reducible first | assumption | (refine Hid.out ?_; assumption) | apply Blk.drew_) | ((with_reducible refine Blk.new _ _ ?_ _ _) <;> (first | rfl | (simp; done))) | (with_reducible first | refine Blk.alloc_ ?_ _ | apply Blk.own2 | refine Blk.other2 ?_ (by omega) | (apply Blk.below; rotate_left; assumption)))) hb1
  have p1_a1 := k1_a1.cell0
  have d1_a1 : w.heap.size + 1 < w1.heap.size := k1_a1.lt
  have q1_a1 := k1_a1.cell1
  have K1_a1 := Lib.hid k1_a1; clear k1_a1
  have f0_1 := Lib.hid (show LimI 14 w1 (.agg #[.bool b0, .slice A0 n0 c0]) X0 from (by repeat (with_reducible first | assumption | (refine Hid.out ?_; assumption) | apply LimI.drew_ | apply IsInt.drew_ | refine LimI.alloc_ ?_ _ | refine IsInt.alloc_ ?_ _ | (apply LimI.below; rotate_left; assumption) | (apply IsInt.below; rotate_left; assumption))))
  have f1_1 := Lib.hid (show LimI 14 w1 (.agg #[.bool b1, .slice A1 n1 c1]) X1 from (by repeat (with_reducible first | assumption | (refine Hid.out ?_; assumption) | apply LimI.drew_ | apply IsInt.drew_ | refine LimI.alloc_ ?_ _ | refine IsInt.alloc_ ?_ _ | (apply LimI.below; rotate_left; assumption) | (apply IsInt.below; rotate_left; assumption))))
  have HB1 := Lib.hid (show Below w.heap.size w w1 from (by repeat first | exact Below.refl _ _ | (with_reducible refine Below.trans ?_ (Below.mono (by with_reducible assumption) ?_)) | (with_reducible refine Below.alloc_ ?_ ?_ _) | (with_reducible refine Below.drew ?_) | (with_reducible refine Below.set2 ?_ ?_) | exact Nat.le_refl _ | omega | focus (simp <;> omega)))
  have hs1 : w.heap.size ≤ w1.heap.size := HB1.out.size
  clear hb1
  go_wp2_with fail
  refine Calls.mono (few_any b0 A0 n0 c0 _ true G0.out) ?_
  rintro e w2 ⟨rfl, hb2⟩
  have hz2 : w1.heap.size ≤ w2.heap.size := (by have hz := hb2.size; (try simp at hz); omega)
  have k2_a0 := Blk.below (g := w.heap.size) (t := 41) (cs := #[.bool b0, .slice A0 n0 c0]) (by repeat (first | (with_reducible first | assumption | (refine Hid.out ?_; assumption) | apply Blk.drew_) | ((with_reducible refine Blk.new _ _ ?_ _ _) <;> (first | rfl | (simp; done))) | (with_reducible first | refine Blk.alloc_ ?_ _ | apply Blk.own2 | refine Blk.other2 ?_ (by omega) | (apply Blk.below; rotate_left; assumption)))) hb2
  have p2_a0 := k2_a0.cell0
  have d2_a0 : w.heap.size < w2.heap.size := k2_a0.lt
  have q2_a0 := k2_a0.cell1
  have K2_a0 := Lib.hid k2_a0; clear k2_a0
  have k2_a1 := Blk.below (g := w.heap.size + 1) (t := 41) (cs := #[.bool b1, .slice A1 n1 c1]) (by repeat (first | (with_reducible first | assumption | (refine Hid.out ?_; assumption) | apply Blk.drew_) | ((with_reducible refine Blk.new _ _ ?_ _ _) <;> (first | rfl | (simp; done))) | (with_reducible first | refine Blk.alloc_ ?_ _ | apply Blk.own2 | refine Blk.other2 ?_ (by omega) | (apply Blk.below; rotate_left; assumption)))) hb2
  have p2_a1 := k2_a1.cell0
  have d2_a1 : w.heap.size + 1 < w2.heap.size := k2_a1.lt
  have q2_a1 := k2_a1.cell1
  have K2_a1 := Lib.hid k2_a1; clear k2_a1
  have f0_2 := Lib.hid (show LimI 14 w2 (.agg #[.bool b0, .slice A0 n0 c0]) X0 from (by repeat (with_reducible first | assumption | (refine Hid.out ?_; assumption) | apply LimI.drew_ | apply IsInt.drew_ | refine LimI.alloc_ ?_ _ | refine IsInt.alloc_ ?_ _ | (apply LimI.below; rotate_left; assumption) | (apply IsInt.below; rotate_left; assumption))))
  have f1_2 := Lib.hid (show LimI 14 w2 (.agg #[.bool b1, .slice A1 n1 c1]) X1 from (by repeat (with_reducible first | assumption | (refine Hid.out ?_; assumption) | apply LimI.drew_ | apply IsInt.drew_ | refine LimI.alloc_ ?_ _ | refine IsInt.alloc_ ?_ _ | (apply LimI.below; rotate_left; assumption) | (apply IsInt.below; rotate_left; assumption))))
  have HB2 := Lib.hid (show Below w.heap.size w w2 from (by repeat first | exact Below.refl _ _ | exact HB1.out | (with_reducible refine Below.trans ?_ (Below.mono (by with_reducible assumption) ?_)) | (with_reducible refine Below.alloc_ ?_ ?_ _) | (with_reducible refine Below.drew ?_) | (with_reducible refine Below.set2 ?_ ?_) | exact Nat.le_refl _ | omega | focus (simp <;> omega)))
  have hs2 : w.heap.size ≤ w2.heap.size := HB2.out.size
  clear K1_a0 K1_a1 f0_1 f1_1 HB1 hb2
  go_wp2_with fail
  refine Calls.mono (few_any b1 A1 n1 c1 _ true G1.out) ?_
  rintro e w3 ⟨rfl, hb3⟩
  have hz3 : w2.heap.size ≤ w3.heap.size := (by have hz := hb3.size; (try simp at hz); omega)
  have k3_a0 := Blk.below (g := w.heap.size) (t := 41) (cs := #[.bool b0, .slice A0 n0 c0]) (by repeat (first | (with_reducible first | assumption | (refine Hid.out ?_; assumption) | apply Blk.drew_) | ((with_reducible refine Blk.new _ _ ?_ _ _) <;> (first | rfl | (simp; done))) | (with_reducible first | refine Blk.alloc_ ?_ _ | apply Blk.own2 | refine Blk.other2 ?_ (by omega) | (apply Blk.below; rotate_left; assumption)))) hb3
  have p3_a0 := k3_a0.cell0
  have d3_a0 : w.heap.size < w3.heap.size := k3_a0.lt
  have q3_a0 := k3_a0.cell1
  have K3_a0 := Lib.hid k3_a0; clear k3_a0
  have k3_a1 := Blk.below (g := w.heap.size + 1) (t := 41) (cs := #[.bool b1, .slice A1 n1 c1]) (by repeat (first | (with_reducible first | assumption | (refine Hid.out ?_; assumption) | apply Blk.drew_) | ((with_reducible refine Blk.new _ _ ?_ _ _) <;> (first | rfl | (simp; done))) | (with_reducible first | refine Blk.alloc_ ?_ _ | apply Blk.own2 | refine Blk.other2 ?_ (by omega) | (apply Blk.below; rotate_left; assumption)))) hb3
  have p3_a1 := k3_a1.cell0
  have d3_a1 : w.heap.size + 1 < w3.heap.size := k3_a1.lt
  have q3_a1 := k3_a1.cell1
  have K3_a1 := Lib.hid k3_a1; clear k3_a1
  have f0_3 := Lib.hid (show LimI 14 w3 (.agg #[.bool b0, .slice A0 n0 c0]) X0 from (by repeat (with_reducible first | assumption | (refine Hid.out ?_; assumption) | apply LimI.drew_ | apply IsInt.drew_ | refine LimI.alloc_ ?_ _ | refine IsInt.alloc_ ?_ _ | (apply LimI.below; rotate_left; assumption) | (apply IsInt.below; rotate_left; assumption))))
  have f1_3 := Lib.hid (show LimI 14 w3 (.agg #[.bool b1, .slice A1 n1 c1]) X1 from (by repeat (with_reducible first | assumption | (refine Hid.out ?_; assumption) | apply LimI.drew_ | apply IsInt.drew_ | refine LimI.alloc_ ?_ _ | refine IsInt.alloc_ ?_ _ | (apply LimI.below; rotate_left; assumption) | (apply IsInt.below; rotate_left; assumption))))
  have HB3 := Lib.hid (show Below w.heap.size w w3 from (by repeat first | exact Below.refl _ _ | exact HB2.out | (with_reducible refine Below.trans ?_ (Below.mono (by with_reducible assumption) ?_)) | (with_reducible refine Below.alloc_ ?_ ?_ _) | (with_reducible refine Below.drew ?_) | (with_reducible refine Below.set2 ?_ ?_) | exact Nat.le_refl _ | omega | focus (simp <;> omega)))
  have hs3 : w.heap.size ≤ w3.heap.size := HB3.out.size
  clear K2_a0 K2_a1 f0_2 f1_2 HB2 hb3
  go_wp2_with fail
  refine Calls.mono (li_small_val (k := 14) (X := X0) (by repeat (with_reducible first | assumption | (refine Hid.out ?_; assumption) | apply LimI.drew_ | apply IsInt.drew_ | refine LimI.alloc_ ?_ _ | refine IsInt.alloc_ ?_ _ | (apply LimI.below; rotate_left; assumption) | (apply IsInt.below; rotate_left; assumption))) (by omega)) ?_
  rintro e w4 ⟨rfl, hb4⟩
  have hz4 : w3.heap.size ≤ w4.heap.size := (by have hz := hb4.size; (try simp at hz); omega)
  have k4_a0 := Blk.below (g := w.heap.size) (t := 41) (cs := #[.bool b0, .slice A0 n0 c0]) (by repeat (first | (with_reducible first | assumption | (refine Hid.out ?_; assumption) | apply Blk.drew_) | ((with_reducible refine Blk.new _ _ ?_ _ _) <;> (first | rfl | (simp; done))) | (with_reducible first | refine Blk.alloc_ ?_ _ | apply Blk.own2 | refine Blk.other2 ?_ (by omega) | (apply Blk.below; rotate_left; assumption)))) hb4
  have p4_a0 := k4_a0.cell0
  have d4_a0 : w.heap.size < w4.heap.size := k4_a0.lt
  have q4_a0 := k4_a0.cell1
  have K4_a0 := Lib.hid k4_a0; clear k4_a0
  have k4_a1 := Blk.below (g := w.heap.size + 1) (t := 41) (cs := #[.bool b1, .slice A1 n1 c1]) (by repeat (first | (with_reducible first | assumption | (refine Hid.out ?_; assumption) | apply Blk.drew_) | ((with_reducible refine Blk.new _ _ ?_ _ _) <;> (first | rfl | (simp; done))) | (with_reducible first | refine Blk.alloc_ ?_ _ | apply Blk.own2 | refine Blk.other2 ?_ (by omega) | (apply Blk.below; rotate_left; assumption)))) hb4
  have p4_a1 := k4_a1.cell0
  have d4_a1 : w.heap.size + 1 < w4.heap.size := k4_a1.lt
  have q4_a1 := k4_a1.cell1
  have K4_a1 := Lib.hid k4_a1; clear k4_a1
  have f0_4 := Lib.hid (show LimI 14 w4 (.agg #[.bool b0, .slice A0 n0 c0]) X0 from (by repeat (with_reducible first | assumption | (refine Hid.out ?_; assumption) | apply LimI.drew_ | apply IsInt.drew_ | refine LimI.alloc_ ?_ _ | refine IsInt.alloc_ ?_ _ | (apply LimI.below; rotate_left; assumption) | (apply IsInt.below; rotate_left; assumption))))
  have f1_4 := Lib.hid (show LimI 14 w4 (.agg #[.bool b1, .slice A1 n1 c1]) X1 from (by repeat (with_reducible first | assumption | (refine Hid.out ?_; assumption) | apply LimI.drew_ | apply IsInt.drew_ | refine LimI.alloc_ ?_ _ | refine IsInt.alloc_ ?_ _ | (apply LimI.below; rotate_left; assumption) | (apply IsInt.below; rotate_left; assumption))))
  have HB4 := Lib.hid (show Below w.heap.size w w4 from (by repeat first | exact Below.refl _ _ | exact HB3.out | (with_reducible refine Below.trans ?_ (Below.mono (by with_reducible assumption) ?_)) | (with_reducible refine Below.alloc_ ?_ ?_ _) | (with_reducible refine Below.drew ?_) | (with_reducible refine Below.set2 ?_ ?_) | exact Nat.le_refl _ | omega | focus (simp <;> omega)))
  have hs4 : w.heap.size ≤ w4.heap.size := HB4.out.size
  clear K3_a0 K3_a1 f0_3 f1_3 HB3 hb4
  go_wp2_with fail
  refine Calls.mono (li_rsmall_val (k := 14) (X := X0) (by repeat (with_reducible first | assumption | (refine Hid.out ?_; assumption) | apply LimI.drew_ | apply IsInt.drew_ | refine LimI.alloc_ ?_ _ | refine IsInt.alloc_ ?_ _ | (apply LimI.below; rotate_left; assumption) | (apply IsInt.below; rotate_left; assumption))) (by omega)) ?_
  rintro e w5 ⟨rfl, hb5⟩
  have hz5 : w4.heap.size ≤ w5.heap.size := (by have hz := hb5.size; (try simp at hz); omega)
  have k5_a0 := Blk.below (g := w.heap.size) (t := 41) (cs := #[.bool b0, .slice A0 n0 c0]) (by repeat (first | (with_reducible first | assumption | (refine Hid.out ?_; assumption) | apply Blk.drew_) | ((with_reducible refine Blk.new _ _ ?_ _ _) <;> (first | rfl | (simp; done))) | (with_reducible first | refine Blk.alloc_ ?_ _ | apply Blk.own2 | refine Blk.other2 ?_ (by omega) | (apply Blk.below; rotate_left; assumption)))) hb5
  have p5_a0 := k5_a0.cell0
  have d5_a0 : w.heap.size < w5.heap.size := k5_a0.lt
  have q5_a0 := k5_a0.cell1
  have K5_a0 := Lib.hid k5_a0; clear k5_a0
  have k5_a1 := Blk.below (g := w.heap.size + 1) (t := 41) (cs := #[.bool b1, .slice A1 n1 c1]) (by repeat (first | (with_reducible first | assumption | (refine Hid.out ?_; assumption) | apply Blk.drew_) | ((with_reducible refine Blk.new _ _ ?_ _ _) <;> (first | rfl | (simp; done))) | (with_reducible first | refine Blk.alloc_ ?_ _ | apply Blk.own2 | refine Blk.other2 ?_ (by omega) | (apply Blk.below; rotate_left; assumption)))) hb5
  have p5_a1 := k5_a1.cell0
  have d5_a1 : w.heap.size + 1 < w5.heap.size := k5_a1.lt
  have q5_a1 := k5_a1.cell1
  have K5_a1 := Lib.hid k5_a1; clear k5_a1
  have f0_5 := Lib.hid (show LimI 14 w5 (.agg #[.bool b0, .slice A0 n0 c0]) X0 from (by repeat (with_reducible first | assumption | (refine Hid.out ?_; assumption) | apply LimI.drew_ | apply IsInt.drew_ | refine LimI.alloc_ ?_ _ | refine IsInt.alloc_ ?_ _ | (apply LimI.below; rotate_left; assumption) | (apply IsInt.below; rotate_left; assumption))))
  have f1_5 := Lib.hid (show LimI 14 w5 (.agg #[.bool b1, .slice A1 n1 c1]) X1 from (by repeat (with_reducible first | assumption | (refine Hid.out ?_; assumption) | apply LimI.drew_ | apply IsInt.drew_ | refine LimI.alloc_ ?_ _ | refine IsInt.alloc_ ?_ _ | (apply LimI.below; rotate_left; assumption) | (apply IsInt.below; rotate_left; assumption))))
  have HB5 := Lib.hid (show Below w.heap.size w w5 from (by repeat first | exact Below.refl _ _ | exact HB4.out | (with_reducible refine Below.trans ?_ (Below.mono (by with_reducible assumption) ?_)) | (with_reducible refine Below.alloc_ ?_ ?_ _) | (with_reducible refine Below.drew ?_) | (with_reducible refine Below.set2 ?_ ?_) | exact Nat.le_refl _ | omega | focus (simp <;> omega)))
  have hs5 : w.heap.size ≤ w5.heap.size := HB5.out.size
  clear K4_a0 K4_a1 f0_4 f1_4 HB4 hb5
  go_wp2_with fail
  refine Calls.mono (of_any nn _ HV.out.1 HV.out.2) ?_
  rintro e w6 ⟨v6, rfl, h6, hb6⟩
  have hz6 : w5.heap.size ≤ w6.heap.size := (by have hz := hb6.size; (try simp at hz); omega)
  have k6_a0 := Blk.below (g := w.heap.size) (t := 41) (cs := #[.bool b0, .slice A0 n0 c0]) (by repeat (first | (with_reducible first | assumption | (refine Hid.out ?_; assumption) | apply Blk.drew_) | ((with_reducible refine Blk.new _ _ ?_ _ _) <;> (first | rfl | (simp; done))) | (with_reducible first | refine Blk.alloc_ ?_ _ | apply Blk.own2 | refine Blk.other2 ?_ (by omega) | (apply Blk.below; rotate_left; assumption)))) hb6
  have p6_a0 := k6_a0.cell0
  have d6_a0 : w.heap.size < w6.heap.size := k6_a0.lt
  have q6_a0 := k6_a0.cell1
  have K6_a0 := Lib.hid k6_a0; clear k6_a0
  have k6_a1 := Blk.below (g := w.heap.size + 1) (t := 41) (cs := #[.bool b1, .slice A1 n1 c1]) (by repeat (first | (with_reducible first | assumption | (refine Hid.out ?_; assumption) | apply Blk.drew_) | ((with_reducible refine Blk.new _ _ ?_ _ _) <;> (first | rfl | (simp; done))) | (with_reducible first | refine Blk.alloc_ ?_ _ | apply Blk.own2 | refine Blk.other2 ?_ (by omega) | (apply Blk.below; rotate_left; assumption)))) hb6
  have p6_a1 := k6_a1.cell0
  have d6_a1 : w.heap.size + 1 < w6.heap.size := k6_a1.lt
  have q6_a1 := k6_a1.cell1
  have K6_a1 := Lib.hid k6_a1; clear k6_a1
  have f0_6 := Lib.hid (show LimI 14 w6 (.agg #[.bool b0, .slice A0 n0 c0]) X0 from (by repeat (with_reducible first | assumption | (refine Hid.out ?_; assumption) | apply LimI.drew_ | apply IsInt.drew_ | refine LimI.alloc_ ?_ _ | refine IsInt.alloc_ ?_ _ | (apply LimI.below; rotate_left; assumption) | (apply IsInt.below; rotate_left; assumption))))
  have f1_6 := Lib.hid (show LimI 14 w6 (.agg #[.bool b1, .slice A1 n1 c1]) X1 from (by repeat (with_reducible first | assumption | (refine Hid.out ?_; assumption) | apply LimI.drew_ | apply IsInt.drew_ | refine LimI.alloc_ ?_ _ | refine IsInt.alloc_ ?_ _ | (apply LimI.below; rotate_left; assumption) | (apply IsInt.below; rotate_left; assumption))))
  have o_6 := Lib.hid (show IsInt w6 v6 nn from h6)
  have HB6 := Lib.hid (show Below w.heap.size w w6 from (by repeat first | exact Below.refl _ _ | exact HB5.out | (with_reducible refine Below.trans ?_ (Below.mono (by with_reducible assumption) ?_)) | (with_reducible refine Below.alloc_ ?_ ?_ _) | (with_reducible refine Below.drew ?_) | (with_reducible refine Below.set2 ?_ ?_) | exact Nat.le_refl _ | omega | focus (simp <;> omega)))
  have hs6 : w.heap.size ≤ w6.heap.size := HB6.out.size
  clear K5_a0 K5_a1 f0_5 f1_5 HB5 hb6
  go_wp2_with fail
  refine Calls.mono (li_small_is (k := 2) (X := nn) (IsInt.lim (k := 2) (Z := nn) (by repeat (with_reducible first | assumption | (refine Hid.out ?_; assumption) | apply LimI.drew_ | apply IsInt.drew_ | refine LimI.alloc_ ?_ _ | refine IsInt.alloc_ ?_ _ | (apply LimI.below; rotate_left; assumption) | (apply IsInt.below; rotate_left; assumption))) HNN.out) (by omega) HV.out.1 HV.out.2) ?_
  rintro e w7 ⟨rfl, hb7⟩
  have hz7 : w6.heap.size ≤ w7.heap.size := (by have hz := hb7.size; (try simp at hz); omega)
  have k7_a0 := Blk.below (g := w.heap.size) (t := 41) (cs := #[.bool b0, .slice A0 n0 c0]) (by repeat (first | (with_reducible first | assumption | (refine Hid.out ?_; assumption) | apply Blk.drew_) | ((with_reducible refine Blk.new _ _ ?_ _ _) <;> (first | rfl | (simp; done))) | (with_reducible first | refine Blk.alloc_ ?_ _ | apply Blk.own2 | refine Blk.other2 ?_ (by omega) | (apply Blk.below; rotate_left; assumption)))) hb7
  have p7_a0 := k7_a0.cell0
  have d7_a0 : w.heap.size < w7.heap.size := k7_a0.lt
  have q7_a0 := k7_a0.cell1
  have K7_a0 := Lib.hid k7_a0; clear k7_a0
  have k7_a1 := Blk.below (g := w.heap.size + 1) (t := 41) (cs := #[.bool b1, .slice A1 n1 c1]) (by repeat (first | (with_reducible first | assumption | (refine Hid.out ?_; assumption) | apply Blk.drew_) | ((with_reducible refine Blk.new _ _ ?_ _ _) <;> (first | rfl | (simp; done))) | (with_reducible first | refine Blk.alloc_ ?_ _ | apply Blk.own2 | refine Blk.other2 ?_ (by omega) | (apply Blk.below; rotate_left; assumption)))) hb7
  have p7_a1 := k7_a1.cell0
  have d7_a1 : w.heap.size + 1 < w7.heap.size := k7_a1.lt
  have q7_a1 := k7_a1.cell1
  have K7_a1 := Lib.hid k7_a1; clear k7_a1
  have f0_7 := Lib.hid (show LimI 14 w7 (.agg #[.bool b0, .slice A0 n0 c0]) X0 from (by repeat (with_reducible first | assumption | (refine Hid.out ?_; assumption) | apply LimI.drew_ | apply IsInt.drew_ | refine LimI.alloc_ ?_ _ | refine IsInt.alloc_ ?_ _ | (apply LimI.below; rotate_left; assumption) | (apply IsInt.below; rotate_left; assumption))))
  have f1_7 := Lib.hid (show LimI 14 w7 (.agg #[.bool b1, .slice A1 n1 c1]) X1 from (by repeat (with_reducible first | assumption | (refine Hid.out ?_; assumption) | apply LimI.drew_ | apply IsInt.drew_ | refine LimI.alloc_ ?_ _ | refine IsInt.alloc_ ?_ _ | (apply LimI.below; rotate_left; assumption) | (apply IsInt.below; rotate_left; assumption))))
  have HB7 := Lib.hid (show Below w.heap.size w w7 from (by repeat first | exact Below.refl _ _ | exact HB6.out | (with_reducible refine Below.trans ?_ (Below.mono (by with_reducible assumption) ?_)) | (with_reducible refine Below.alloc_ ?_ ?_ _) | (with_reducible refine Below.drew ?_) | (with_reducible refine Below.set2 ?_ ?_) | exact Nat.le_refl _ | omega | focus (simp <;> omega)))
  have hs7 : w.heap.size ≤ w7.heap.size := HB7.out.size
  clear K6_a0 K6_a1 f0_6 f1_6 o_6 HB6 hb7
  go_wp2_with fail
  refine Calls.mono (HD1.out 14 14 _ _ _ (by repeat (with_reducible first | assumption | (refine Hid.out ?_; assumption) | apply LimI.drew_ | apply IsInt.drew_ | refine LimI.alloc_ ?_ _ | refine IsInt.alloc_ ?_ _ | (apply LimI.below; rotate_left; assumption) | (apply IsInt.below; rotate_left; assumption))) (by repeat (with_reducible first | assumption | (refine Hid.out ?_; assumption) | apply LimI.drew_ | apply IsInt.drew_ | refine LimI.alloc_ ?_ _ | refine IsInt.alloc_ ?_ _ | (apply LimI.below; rotate_left; assumption) | (apply IsInt.below; rotate_left; assumption))) (by omega) (by omega)) ?_
  rintro e w8 ⟨vq, vr, rfl, hq8, hr8, hb8⟩
  obtain ⟨bhq8, Ahq8, nhq8, chq8, rfl, -, -, hq8⟩ := hq8.form
  obtain ⟨bhr8, Ahr8, nhr8, chr8, rfl, -, -, hr8⟩ := hr8.form
  have hz8 : w7.heap.size ≤ w8.heap.size := (by have hz := hb8.size; (try simp at hz); omega)
  have k8_a0 := Blk.below (g := w.heap.size) (t := 41) (cs := #[.bool b0, .slice A0 n0 c0]) (by repeat (first | (with_reducible first | assumption | (refine Hid.out ?_; assumption) | apply Blk.drew_) | ((with_reducible refine Blk.new _ _ ?_ _ _) <;> (first | rfl | (simp; done))) | (with_reducible first | refine Blk.alloc_ ?_ _ | apply Blk.own2 | refine Blk.other2 ?_ (by omega) | (apply Blk.below; rotate_left; assumption)))) hb8
  have p8_a0 := k8_a0.cell0
  have d8_a0 : w.heap.size < w8.heap.size := k8_a0.lt
  have q8_a0 := k8_a0.cell1
  have K8_a0 := Lib.hid k8_a0; clear k8_a0
  have k8_a1 := Blk.below (g := w.heap.size + 1) (t := 41) (cs := #[.bool b1, .slice A1 n1 c1]) (by repeat (first | (with_reducible first | assumption | (refine Hid.out ?_; assumption) | apply Blk.drew_) | ((with_reducible refine Blk.new _ _ ?_ _ _) <;> (first | rfl | (simp; done))) | (with_reducible first | refine Blk.alloc_ ?_ _ | apply Blk.own2 | refine Blk.other2 ?_ (by omega) | (apply Blk.below; rotate_left; assumption)))) hb8
  have p8_a1 := k8_a1.cell0
  have d8_a1 : w.heap.size + 1 < w8.heap.size := k8_a1.lt
  have q8_a1 := k8_a1.cell1
  have K8_a1 := Lib.hid k8_a1; clear k8_a1
  have f0_8 := Lib.hid (show LimI 14 w8 (.agg #[.bool b0, .slice A0 n0 c0]) X0 from (by repeat (with_reducible first | assumption | (refine Hid.out ?_; assumption) | apply LimI.drew_ | apply IsInt.drew_ | refine LimI.alloc_ ?_ _ | refine IsInt.alloc_ ?_ _ | (apply LimI.below; rotate_left; assumption) | (apply IsInt.below; rotate_left; assumption))))
  have f1_8 := Lib.hid (show LimI 14 w8 (.agg #[.bool b1, .slice A1 n1 c1]) X1 from (by repeat (with_reducible first | assumption | (refine Hid.out ?_; assumption) | apply LimI.drew_ | apply IsInt.drew_ | refine LimI.alloc_ ?_ _ | refine IsInt.alloc_ ?_ _ | (apply LimI.below; rotate_left; assumption) | (apply IsInt.below; rotate_left; assumption))))
  have q_8 := Lib.hid (show IsInt w8 (.agg #[.bool bhq8, .slice Ahq8 nhq8 chq8]) q from hq8)
  have r_8 := Lib.hid (show IsInt w8 (.agg #[.bool bhr8, .slice Ahr8 nhr8 chr8]) r from hr8)
  have HB8 := Lib.hid (show Below w.heap.size w w8 from (by repeat first | exact Below.refl _ _ | exact HB7.out | (with_reducible refine Below.trans ?_ (Below.mono (by with_reducible assumption) ?_)) | (with_reducible refine Below.alloc_ ?_ ?_ _) | (with_reducible refine Below.drew ?_) | (with_reducible refine Below.set2 ?_ ?_) | exact Nat.le_refl _ | omega | focus (simp <;> omega)))
  have hs8 : w.heap.size ≤ w8.heap.size := HB8.out.size
  clear K7_a0 K7_a1 f0_7 f1_7 HB7 hb8
  go_wp2_with fail
  refine Calls.mono (of_any nn _ HV.out.1 HV.out.2) ?_
  rintro e w9 ⟨v9, rfl, h9, hb9⟩
  have hz9 : w8.heap.size + 2 ≤ w9.heap.size := (by have hz := hb9.size; (try simp at hz); omega)
  have k9_a0 := Blk.below (g := w.heap.size) (t := 41) (cs := #[.bool b0, .slice A0 n0 c0]) (by repeat (first | (with_reducible first | assumption | (refine Hid.out ?_; assumption) | apply Blk.drew_) | ((with_reducible refine Blk.new _ _ ?_ _ _) <;> (first | rfl | (simp; done))) | (with_reducible first | refine Blk.alloc_ ?_ _ | apply Blk.own2 | refine Blk.other2 ?_ (by omega) | (apply Blk.below; rotate_left; assumption)))) hb9
  have p9_a0 := k9_a0.cell0
  have d9_a0 : w.heap.size < w9.heap.size := k9_a0.lt
  have q9_a0 := k9_a0.cell1
  have K9_a0 := Lib.hid k9_a0; clear k9_a0
  have k9_a1 := Blk.below (g := w.heap.size + 1) (t := 41) (cs := #[.bool b1, .slice A1 n1 c1]) (by repeat (first | (with_reducible first | assumption | (refine Hid.out ?_; assumption) | apply Blk.drew_) | ((with_reducible refine Blk.new _ _ ?_ _ _) <;> (first | rfl | (simp; done))) | (with_reducible first | refine Blk.alloc_ ?_ _ | apply Blk.own2 | refine Blk.other2 ?_ (by omega) | (apply Blk.below; rotate_left; assumption)))) hb9
  have p9_a1 := k9_a1.cell0
  have d9_a1 : w.heap.size + 1 < w9.heap.size := k9_a1.lt
  have q9_a1 := k9_a1.cell1
  have K9_a1 := Lib.hid k9_a1; clear k9_a1
  have k9_q := Blk.below (g := w8.heap.size) (t := 41) (cs := #[.bool bhq8, .slice Ahq8 nhq8 chq8]) (by repeat (first | (with_reducible first | assumption | (refine Hid.out ?_; assumption) | apply Blk.drew_) | ((with_reducible refine Blk.new _ _ ?_ _ _) <;> (first | rfl | (simp; done))) | (with_reducible first | refine Blk.alloc_ ?_ _ | apply Blk.own2 | refine Blk.other2 ?_ (by omega) | (apply Blk.below; rotate_left; assumption)))) hb9
  have p9_q := k9_q.cell0
  have d9_q : w8.heap.size < w9.heap.size := k9_q.lt
  have q9_q := k9_q.cell1
  have K9_q := Lib.hid k9_q; clear k9_q
  have k9_r := Blk.below (g := w8.heap.size + 1) (t := 41) (cs := #[.bool bhr8, .slice Ahr8 nhr8 chr8]) (by repeat (first | (with_reducible first | assumption | (refine Hid.out ?_; assumption) | apply Blk.drew_) | ((with_reducible refine Blk.new _ _ ?_ _ _) <;> (first | rfl | (simp; done))) | (with_reducible first | refine Blk.alloc_ ?_ _ | apply Blk.own2 | refine Blk.other2 ?_ (by omega) | (apply Blk.below; rotate_left; assumption)))) hb9
  have p9_r := k9_r.cell0
  have d9_r : w8.heap.size + 1 < w9.heap.size := k9_r.lt
  have q9_r := k9_r.cell1
  have K9_r := Lib.hid k9_r; clear k9_r
  have f0_9 := Lib.hid (show LimI 14 w9 (.agg #[.bool b0, .slice A0 n0 c0]) X0 from (by repeat (with_reducible first | assumption | (refine Hid.out ?_; assumption) | apply LimI.drew_ | apply IsInt.drew_ | refine LimI.alloc_ ?_ _ | refine IsInt.alloc_ ?_ _ | (apply LimI.below; rotate_left; assumption) | (apply IsInt.below; rotate_left; assumption))))
  have f1_9 := Lib.hid (show LimI 14 w9 (.agg #[.bool b1, .slice A1 n1 c1]) X1 from (by repeat (with_reducible first | assumption | (refine Hid.out ?_; assumption) | apply LimI.drew_ | apply IsInt.drew_ | refine LimI.alloc_ ?_ _ | refine IsInt.alloc_ ?_ _ | (apply LimI.below; rotate_left; assumption) | (apply IsInt.below; rotate_left; assumption))))
  have q_9 := Lib.hid (show IsInt w9 (.agg #[.bool bhq8, .slice Ahq8 nhq8 chq8]) q from (by repeat (with_reducible first | assumption | (refine Hid.out ?_; assumption) | apply LimI.drew_ | apply IsInt.drew_ | refine LimI.alloc_ ?_ _ | refine IsInt.alloc_ ?_ _ | (apply LimI.below; rotate_left; assumption) | (apply IsInt.below; rotate_left; assumption))))
  have r_9 := Lib.hid (show IsInt w9 (.agg #[.bool bhr8, .slice Ahr8 nhr8 chr8]) r from (by repeat (with_reducible first | assumption | (refine Hid.out ?_; assumption) | apply LimI.drew_ | apply IsInt.drew_ | refine LimI.alloc_ ?_ _ | refine IsInt.alloc_ ?_ _ | (apply LimI.below; rotate_left; assumption) | (apply IsInt.below; rotate_left; assumption))))
  have o_9 := Lib.hid (show IsInt w9 v9 nn from h9)
  have HB9 := Lib.hid (show Below w.heap.size w w9 from (by repeat first | exact Below.refl _ _ | exact HB8.out | (with_reducible refine Below.trans ?_ (Below.mono (by with_reducible assumption) ?_)) | (with_reducible refine Below.alloc_ ?_ ?_ _) | (with_reducible refine Below.drew ?_) | (with_reducible refine Below.set2 ?_ ?_) | exact Nat.le_refl _ | omega | focus (simp <;> omega)))
  have hs9 : w.heap.size ≤ w9.heap.size := HB9.out.size
  clear K8_a0 K8_a1 f0_8 f1_8 q_8 r_8 HB8 hb9
  go_wp2_with fail
  refine Calls.mono (li_text (k := 2) (X := nn) (IsInt.lim (k := 2) (Z := nn) (by repeat (with_reducible first | assumption | (refine Hid.out ?_; assumption) | apply LimI.drew_ | apply IsInt.drew_ | refine LimI.alloc_ ?_ _ | refine IsInt.alloc_ ?_ _ | (apply LimI.below; rotate_left; assumption) | (apply IsInt.below; rotate_left; assumption))) HNN.out) (by omega)) ?_
  rintro e w10 ⟨rfl, hb10⟩
  have hz10 : w9.heap.size ≤ w10.heap.size := (by have hz := hb10.size; (try simp at hz); omega)
  have k10_a0 := Blk.below (g := w.heap.size) (t := 41) (cs := #[.bool b0, .slice A0 n0 c0]) (by repeat (first | (with_reducible first | assumption | (refine Hid.out ?_; assumption) | apply Blk.drew_) | ((with_reducible refine Blk.new _ _ ?_ _ _) <;> (first | rfl | (simp; done))) | (with_reducible first | refine Blk.alloc_ ?_ _ | apply Blk.own2 | refine Blk.other2 ?_ (by omega) | (apply Blk.below; rotate_left; assumption)))) hb10
  have p10_a0 := k10_a0.cell0
  have d10_a0 : w.heap.size < w10.heap.size := k10_a0.lt
  have q10_a0 := k10_a0.cell1
  have K10_a0 := Lib.hid k10_a0; clear k10_a0
  have k10_a1 := Blk.below (g := w.heap.size + 1) (t := 41) (cs := #[.bool b1, .slice A1 n1 c1]) (by repeat (first | (with_reducible first | assumption | (refine Hid.out ?_; assumption) | apply Blk.drew_) | ((with_reducible refine Blk.new _ _ ?_ _ _) <;> (first | rfl | (simp; done))) | (with_reducible first | refine Blk.alloc_ ?_ _ | apply Blk.own2 | refine Blk.other2 ?_ (by omega) | (apply Blk.below; rotate_left; assumption)))) hb10
  have p10_a1 := k10_a1.cell0
  have d10_a1 : w.heap.size + 1 < w10.heap.size := k10_a1.lt
  have q10_a1 := k10_a1.cell1
  have K10_a1 := Lib.hid k10_a1; clear k10_a1
  have k10_q := Blk.below (g := w8.heap.size) (t := 41) (cs := #[.bool bhq8, .slice Ahq8 nhq8 chq8]) (by repeat (first | (with_reducible first | assumption | (refine Hid.out ?_; assumption) | apply Blk.drew_) | ((with_reducible refine Blk.new _ _ ?_ _ _) <;> (first | rfl | (simp; done))) | (with_reducible first | refine Blk.alloc_ ?_ _ | apply Blk.own2 | refine Blk.other2 ?_ (by omega) | (apply Blk.below; rotate_left; assumption)))) hb10
  have p10_q := k10_q.cell0
  have d10_q : w8.heap.size < w10.heap.size := k10_q.lt
  have q10_q := k10_q.cell1
  have K10_q := Lib.hid k10_q; clear k10_q
  have k10_r := Blk.below (g := w8.heap.size + 1) (t := 41) (cs := #[.bool bhr8, .slice Ahr8 nhr8 chr8]) (by repeat (first | (with_reducible first | assumption | (refine Hid.out ?_; assumption) | apply Blk.drew_) | ((with_reducible refine Blk.new _ _ ?_ _ _) <;> (first | rfl | (simp; done))) | (with_reducible first | refine Blk.alloc_ ?_ _ | apply Blk.own2 | refine Blk.other2 ?_ (by omega) | (apply Blk.below; rotate_left; assumption)))) hb10
  have p10_r := k10_r.cell0
  have d10_r : w8.heap.size + 1 < w10.heap.size := k10_r.lt
  have q10_r := k10_r.cell1
  have K10_r := Lib.hid k10_r; clear k10_r
  have f0_10 := Lib.hid (show LimI 14 w10 (.agg #[.bool b0, .slice A0 n0 c0]) X0 from (by repeat (with_reducible first | assumption | (refine Hid.out ?_; assumption) | apply LimI.drew_ | apply IsInt.drew_ | refine LimI.alloc_ ?_ _ | refine IsInt.alloc_ ?_ _ | (apply LimI.below; rotate_left; assumption) | (apply IsInt.below; rotate_left; assumption))))
  have f1_10 := Lib.hid (show LimI 14 w10 (.agg #[.bool b1, .slice A1 n1 c1]) X1 from (by repeat (with_reducible first | assumption | (refine Hid.out ?_; assumption) | apply LimI.drew_ | apply IsInt.drew_ | refine LimI.alloc_ ?_ _ | refine IsInt.alloc_ ?_ _ | (apply LimI.below; rotate_left; assumption) | (apply IsInt.below; rotate_left; assumption))))
  have q_10 := Lib.hid (show IsInt w10 (.agg #[.bool bhq8, .slice Ahq8 nhq8 chq8]) q from (by repeat (with_reducible first | assumption | (refine Hid.out ?_; assumption) | apply LimI.drew_ | apply IsInt.drew_ | refine LimI.alloc_ ?_ _ | refine IsInt.alloc_ ?_ _ | (apply LimI.below; rotate_left; assumption) | (apply IsInt.below; rotate_left; assumption))))
  have r_10 := Lib.hid (show IsInt w10 (.agg #[.bool bhr8, .slice Ahr8 nhr8 chr8]) r from (by repeat (with_reducible first | assumption | (refine Hid.out ?_; assumption) | apply LimI.drew_ | apply IsInt.drew_ | refine LimI.alloc_ ?_ _ | refine IsInt.alloc_ ?_ _ | (apply LimI.below; rotate_left; assumption) | (apply IsInt.below; rotate_left; assumption))))
  have HB10 := Lib.hid (show Below w.heap.size w w10 from (by repeat first | exact Below.refl _ _ | exact HB9.out | (with_reducible refine Below.trans ?_ (Below.mono (by with_reducible assumption) ?_)) | (with_reducible refine Below.alloc_ ?_ ?_ _) | (with_reducible refine Below.drew ?_) | (with_reducible refine Below.set2 ?_ ?_) | exact Nat.le_refl _ | omega | focus (simp <;> omega)))
  have hs10 : w.heap.size ≤ w10.heap.size := HB10.out.size
  clear K9_a0 K9_a1 K9_q K9_r f0_9 f1_9 q_9 r_9 o_9 HB9 hb10
  go_wp2_with fail
  refine Calls.mono (of_any nn _ HV.out.1 HV.out.2) ?_
  rintro e w11 ⟨v11, rfl, h11, hb11⟩
  have hz11 : w10.heap.size ≤ w11.heap.size := (by have hz := hb11.size; (try simp at hz); omega)
  have k11_a0 := Blk.below (g := w.heap.size) (t := 41) (cs := #[.bool b0, .slice A0 n0 c0]) (by repeat (first | (with_reducible first | assumption | (refine Hid.out ?_; assumption) | apply Blk.drew_) | ((with_reducible refine Blk.new _ _ ?_ _ _) <;> (first | rfl | (simp; done))) | (with_reducible first | refine Blk.alloc_ ?_ _ | apply Blk.own2 | refine Blk.other2 ?_ (by omega) | (apply Blk.below; rotate_left; assumption)))) hb11
  have p11_a0 := k11_a0.cell0
  have d11_a0 : w.heap.size < w11.heap.size := k11_a0.lt
  have q11_a0 := k11_a0.cell1
  have K11_a0 := Lib.hid k11_a0; clear k11_a0
  have k11_a1 := Blk.below (g := w.heap.size + 1) (t := 41) (cs := #[.bool b1, .slice A1 n1 c1]) (by repeat (first | (with_reducible first | assumption | (refine Hid.out ?_; assumption) | apply Blk.drew_) | ((with_reducible refine Blk.new _ _ ?_ _ _) <;> (first | rfl | (simp; done))) | (with_reducible first | refine Blk.alloc_ ?_ _ | apply Blk.own2 | refine Blk.other2 ?_ (by omega) | (apply Blk.below; rotate_left; assumption)))) hb11
  have p11_a1 := k11_a1.cell0
  have d11_a1 : w.heap.size + 1 < w11.heap.size := k11_a1.lt
  have q11_a1 := k11_a1.cell1
  have K11_a1 := Lib.hid k11_a1; clear k11_a1
  have k11_q := Blk.below (g := w8.heap.size) (t := 41) (cs := #[.bool bhq8, .slice Ahq8 nhq8 chq8]) (by repeat (first | (with_reducible first | assumption | (refine Hid.out ?_; assumption) | apply Blk.drew_) | ((with_reducible refine Blk.new _ _ ?_ _ _) <;> (first | rfl | (simp; done))) | (with_reducible first | refine Blk.alloc_ ?_ _ | apply Blk.own2 | refine Blk.other2 ?_ (by omega) | (apply Blk.below; rotate_left; assumption)))) hb11
  have p11_q := k11_q.cell0
  have d11_q : w8.heap.size < w11.heap.size := k11_q.lt
  have q11_q := k11_q.cell1
  have K11_q := Lib.hid k11_q; clear k11_q
  have k11_r := Blk.below (g := w8.heap.size + 1) (t := 41) (cs := #[.bool bhr8, .slice Ahr8 nhr8 chr8]) (by repeat (first | (with_reducible first | assumption | (refine Hid.out ?_; assumption) | apply Blk.drew_) | ((with_reducible refine Blk.new _ _ ?_ _ _) <;> (first | rfl | (simp; done))) | (with_reducible first | refine Blk.alloc_ ?_ _ | apply Blk.own2 | refine Blk.other2 ?_ (by omega) | (apply Blk.below; rotate_left; assumption)))) hb11
  have p11_r := k11_r.cell0
  have d11_r : w8.heap.size + 1 < w11.heap.size := k11_r.lt
  have q11_r := k11_r.cell1
  have K11_r := Lib.hid k11_r; clear k11_r
  have f0_11 := Lib.hid (show LimI 14 w11 (.agg #[.bool b0, .slice A0 n0 c0]) X0 from (by repeat (with_reducible first | assumption | (refine Hid.out ?_; assumption) | apply LimI.drew_ | apply IsInt.drew_ | refine LimI.alloc_ ?_ _ | refine IsInt.alloc_ ?_ _ | (apply LimI.below; rotate_left; assumption) | (apply IsInt.below; rotate_left; assumption))))
  have f1_11 := Lib.hid (show LimI 14 w11 (.agg #[.bool b1, .slice A1 n1 c1]) X1 from (by repeat (with_reducible first | assumption | (refine Hid.out ?_; assumption) | apply LimI.drew_ | apply IsInt.drew_ | refine LimI.alloc_ ?_ _ | refine IsInt.alloc_ ?_ _ | (apply LimI.below; rotate_left; assumption) | (apply IsInt.below; rotate_left; assumption))))
  have q_11 := Lib.hid (show IsInt w11 (.agg #[.bool bhq8, .slice Ahq8 nhq8 chq8]) q from (by repeat (with_reducible first | assumption | (refine Hid.out ?_; assumption) | apply LimI.drew_ | apply IsInt.drew_ | refine LimI.alloc_ ?_ _ | refine IsInt.alloc_ ?_ _ | (apply LimI.below; rotate_left; assumption) | (apply IsInt.below; rotate_left; assumption))))
  have r_11 := Lib.hid (show IsInt w11 (.agg #[.bool bhr8, .slice Ahr8 nhr8 chr8]) r from (by repeat (with_reducible first | assumption | (refine Hid.out ?_; assumption) | apply LimI.drew_ | apply IsInt.drew_ | refine LimI.alloc_ ?_ _ | refine IsInt.alloc_ ?_ _ | (apply LimI.below; rotate_left; assumption) | (apply IsInt.below; rotate_left; assumption))))
  have o_11 := Lib.hid (show IsInt w11 v11 nn from h11)
  have HB11 := Lib.hid (show Below w.heap.size w w11 from (by repeat first | exact Below.refl _ _ | exact HB10.out | (with_reducible refine Below.trans ?_ (Below.mono (by with_reducible assumption) ?_)) | (with_reducible refine Below.alloc_ ?_ ?_ _) | (with_reducible refine Below.drew ?_) | (with_reducible refine Below.set2 ?_ ?_) | exact Nat.le_refl _ | omega | focus (simp <;> omega)))
  have hs11 : w.heap.size ≤ w11.heap.size := HB11.out.size
  clear K10_a0 K10_a1 K10_q K10_r f0_10 f1_10 q_10 r_10 HB10 hb11
  go_wp2_with fail
  refine Calls.mono (li_rtext (k := 2) (X := nn) (IsInt.lim (k := 2) (Z := nn) (by repeat (with_reducible first | assumption | (refine Hid.out ?_; assumption) | apply LimI.drew_ | apply IsInt.drew_ | refine LimI.alloc_ ?_ _ | refine IsInt.alloc_ ?_ _ | (apply LimI.below; rotate_left; assumption) | (apply IsInt.below; rotate_left; assumption))) HNN.out) (by omega)) ?_
  rintro e w12 ⟨rfl, hb12⟩
  have hz12 : w11.heap.size ≤ w12.heap.size := (by have hz := hb12.size; (try simp at hz); omega)
  have k12_a0 := Blk.below (g := w.heap.size) (t := 41) (cs := #[.bool b0, .slice A0 n0 c0]) (by repeat (first | (with_reducible first | assumption | (refine Hid.out ?_; assumption) | apply Blk.drew_) | ((with_reducible refine Blk.new _ _ ?_ _ _) <;> (first | rfl | (simp; done))) | (with_reducible first | refine Blk.alloc_ ?_ _ | apply Blk.own2 | refine Blk.other2 ?_ (by omega) | (apply Blk.below; rotate_left; assumption)))) hb12
  have p12_a0 := k12_a0.cell0
  have d12_a0 : w.heap.size < w12.heap.size := k12_a0.lt
  have q12_a0 := k12_a0.cell1
  have K12_a0 := Lib.hid k12_a0; clear k12_a0
  have k12_a1 := Blk.below (g := w.heap.size + 1) (t := 41) (cs := #[.bool b1, .slice A1 n1 c1]) (by repeat (first | (with_reducible first | assumption | (refine Hid.out ?_; assumption) | apply Blk.drew_) | ((with_reducible refine Blk.new _ _ ?_ _ _) <;> (first | rfl | (simp; done))) | (with_reducible first | refine Blk.alloc_ ?_ _ | apply Blk.own2 | refine Blk.other2 ?_ (by omega) | (apply Blk.below; rotate_left; assumption)))) hb12
  have p12_a1 := k12_a1.cell0
  have d12_a1 : w.heap.size + 1 < w12.heap.size := k12_a1.lt
  have q12_a1 := k12_a1.cell1
  have K12_a1 := Lib.hid k12_a1; clear k12_a1
  have k12_q := Blk.below (g := w8.heap.size) (t := 41) (cs := #[.bool bhq8, .slice Ahq8 nhq8 chq8]) (by repeat (first | (with_reducible first | assumption | (refine Hid.out ?_; assumption) | apply Blk.drew_) | ((with_reducible refine Blk.new _ _ ?_ _ _) <;> (first | rfl | (simp; done))) | (with_reducible first | refine Blk.alloc_ ?_ _ | apply Blk.own2 | refine Blk.other2 ?_ (by omega) | (apply Blk.below; rotate_left; assumption)))) hb12
  have p12_q := k12_q.cell0
  have d12_q : w8.heap.size < w12.heap.size := k12_q.lt
  have q12_q := k12_q.cell1
  have K12_q := Lib.hid k12_q; clear k12_q
  have k12_r := Blk.below (g := w8.heap.size + 1) (t := 41) (cs := #[.bool bhr8, .slice Ahr8 nhr8 chr8]) (by repeat (first | (with_reducible first | assumption | (refine Hid.out ?_; assumption) | apply Blk.drew_) | ((with_reducible refine Blk.new _ _ ?_ _ _) <;> (first | rfl | (simp; done))) | (with_reducible first | refine Blk.alloc_ ?_ _ | apply Blk.own2 | refine Blk.other2 ?_ (by omega) | (apply Blk.below; rotate_left; assumption)))) hb12
  have p12_r := k12_r.cell0
  have d12_r : w8.heap.size + 1 < w12.heap.size := k12_r.lt
  have q12_r := k12_r.cell1
  have K12_r := Lib.hid k12_r; clear k12_r
  have f0_12 := Lib.hid (show LimI 14 w12 (.agg #[.bool b0, .slice A0 n0 c0]) X0 from (by repeat (with_reducible first | assumption | (refine Hid.out ?_; assumption) | apply LimI.drew_ | apply IsInt.drew_ | refine LimI.alloc_ ?_ _ | refine IsInt.alloc_ ?_ _ | (apply LimI.below; rotate_left; assumption) | (apply IsInt.below; rotate_left; assumption))))
  have f1_12 := Lib.hid (show LimI 14 w12 (.agg #[.bool b1, .slice A1 n1 c1]) X1 from (by repeat (with_reducible first | assumption | (refine Hid.out ?_; assumption) | apply LimI.drew_ | apply IsInt.drew_ | refine LimI.alloc_ ?_ _ | refine IsInt.alloc_ ?_ _ | (apply LimI.below; rotate_left; assumption) | (apply IsInt.below; rotate_left; assumption))))
  have q_12 := Lib.hid (show IsInt w12 (.agg #[.bool bhq8, .slice Ahq8 nhq8 chq8]) q from (by repeat (with_reducible first | assumption | (refine Hid.out ?_; assumption) | apply LimI.drew_ | apply IsInt.drew_ | refine LimI.alloc_ ?_ _ | refine IsInt.alloc_ ?_ _ | (apply LimI.below; rotate_left; assumption) | (apply IsInt.below; rotate_left; assumption))))
  have r_12 := Lib.hid (show IsInt w12 (.agg #[.bool bhr8, .slice Ahr8 nhr8 chr8]) r from (by repeat (with_reducible first | assumption | (refine Hid.out ?_; assumption) | apply LimI.drew_ | apply IsInt.drew_ | refine LimI.alloc_ ?_ _ | refine IsInt.alloc_ ?_ _ | (apply LimI.below; rotate_left; assumption) | (apply IsInt.below; rotate_left; assumption))))
  have HB12 := Lib.hid (show Below w.heap.size w w12 from (by repeat first | exact Below.refl _ _ | exact HB11.out | (with_reducible refine Below.trans ?_ (Below.mono (by with_reducible assumption) ?_)) | (with_reducible refine Below.alloc_ ?_ ?_ _) | (with_reducible refine Below.drew ?_) | (with_reducible refine Below.set2 ?_ ?_) | exact Nat.le_refl _ | omega | focus (simp <;> omega)))
  have hs12 : w.heap.size ≤ w12.heap.size := HB12.out.size
  clear K11_a0 K11_a1 K11_q K11_r f0_11 f1_11 q_11 r_11 o_11 HB11 hb12
  go_wp2
  go_quiet (fail)
  go_wp2
  go_ret
  exact ⟨rfl, (by first | exact HB12.out | exact Below.drewN_ HB12.out _)⟩
set_option maxRecDepth 100000 in
set_option maxHeartbeats 8000000 in
theorem wholeSmall_zero (nn q r : Int) (b0 : Bool) (A0 : Option Addr) (n0 c0 : Nat) (b1 : Bool) (A1 : Option Addr) (n1 c1 : Nat) (X0 X1 : Int) (w : World) (hn0 : n0 ≤ 14) (h0 : LimI 14 w (.agg #[.bool b0, .slice A0 n0 c0]) X0) (hn1 : n1 ≤ 14) (h1 : LimI 14 w (.agg #[.bool b1, .slice A1 n1 c1]) X1) (hv1 : -9223372036854775808 ≤ nn) (hv2 : nn ≤ 9223372036854775807) (hq : q.natAbs ≤ X0.natAbs) (D1 : ∀ (k l : Nat) (w : World) (v v' : Value), LimI k w v X0 → LimI l w v' X1 → k ≤ 100000 → l ≤ 100000 → Calls Try.prog 34 #[v, v'] w fun e w' => DivAny w w' e true q r) (hF : FDiv X0 X1 q r) (hr0 : r = 0) :
    Calls Try.prog 7 #[.int .i64 nn, .agg #[.bool b0, .slice A0 n0 c0], .agg #[.bool b1, .slice A1 n1 c1]] w fun e w' => e = .returned (.bool true) ∧ Below w.heap.size w w' := by
  have G0 : Hid (true = decide ((n0 : Int) ≤ 14)) := (decide_eq_true (by omega)).symm
  have HX0 := Lib.hid h0.lt
  have H0 := Lib.hid h0
  have G1 : Hid (true = decide ((n1 : Int) ≤ 14)) := (decide_eq_true (by omega)).symm
  have HX1 := Lib.hid h1.lt
  have H1 := Lib.hid h1
  have HV : Hid (-9223372036854775808 ≤ nn ∧ nn ≤ 9223372036854775807) := ⟨hv1, hv2⟩
  have HNN : Hid (nn.natAbs < 4294967296 ^ 2) := by show _ < _; omega
  have HQ : Hid (q.natAbs < 4294967296 ^ 14) := Nat.lt_of_le_of_lt hq HX0.out
  have HD1 := Lib.hid D1
  have HRL : Hid (r.natAbs < X1.natAbs) := by
    have := hF.2
    show _ < _
    omega
  have HR : Hid (r.natAbs < 4294967296 ^ 14) := Nat.lt_trans HRL.out HX1.out
  have HQM : Hid ((q * X1).natAbs < 4294967296 ^ 28) := i_mul HQ.out HX1.out 28 (by omega)
  have HE : Hid (q * X1 + r = X0) := hF.1
  subst hr0
  clear hq D1 hv1 hv2 hF
  clear hn0 h0 hn1 h1
  go_enter Try.func7, Try.ntmps7
  go_wp2_with fail
  refine Calls.mono (awake2 _) ?_
  rintro e w1 ⟨rfl, hb1⟩
  have hz1 : w.heap.size + 1 + 1 ≤ w1.heap.size := (by have hz := hb1.size; (try simp at hz); omega)
  have k1_a0 := Blk.below (g := w.heap.size) (t := 41) (cs := #[.bool b0, .slice A0 n0 c0]) (by repeat (first | (with_reducible first | assumption | (refine Hid.out ?_; assumption) | apply Blk.drew_) | ((with_reducible refine Blk.new _ _ ?_ _ _) <;> (first | rfl | (simp; done))) | (with_reducible first | refine Blk.alloc_ ?_ _ | apply Blk.own2 | refine Blk.other2 ?_ (by omega) | (apply Blk.below; rotate_left; assumption)))) hb1
  have p1_a0 := k1_a0.cell0
  have d1_a0 : w.heap.size < w1.heap.size := k1_a0.lt
  have q1_a0 := k1_a0.cell1
  have K1_a0 := Lib.hid k1_a0; clear k1_a0
  have k1_a1 := Blk.below (g := w.heap.size + 1) (t := 41) (cs := #[.bool b1, .slice A1 n1 c1]) (by repeat (first | (with_reducible first | assumption | (refine Hid.out ?_; assumption) | apply Blk.drew_) | ((with_reducible refine Blk.new _ _ ?_ _ _) <;> (first | rfl | (simp; done))) | (with_reducible first | refine Blk.alloc_ ?_ _ | apply Blk.own2 | refine Blk.other2 ?_ (by omega) | (apply Blk.below; rotate_left; assumption)))) hb1
  have p1_a1 := k1_a1.cell0
  have d1_a1 : w.heap.size + 1 < w1.heap.size := k1_a1.lt
  have q1_a1 := k1_a1.cell1
  have K1_a1 := Lib.hid k1_a1; clear k1_a1
  have f0_1 := Lib.hid (show LimI 14 w1 (.agg #[.bool b0, .slice A0 n0 c0]) X0 from (by repeat (with_reducible first | assumption | (refine Hid.out ?_; assumption) | apply LimI.drew_ | apply IsInt.drew_ | refine LimI.alloc_ ?_ _ | refine IsInt.alloc_ ?_ _ | (apply LimI.below; rotate_left; assumption) | (apply IsInt.below; rotate_left; assumption))))
  have f1_1 := Lib.hid (show LimI 14 w1 (.agg #[.bool b1, .slice A1 n1 c1]) X1 from (by repeat (with_reducible first | assumption | (refine Hid.out ?_; assumption) | apply LimI.drew_ | apply IsInt.drew_ | refine LimI.alloc_ ?_ _ | refine IsInt.alloc_ ?_ _ | (apply LimI.below; rotate_left; assumption) | (apply IsInt.below; rotate_left; assumption))))
  have HB1 := Lib.hid (show Below w.heap.size w w1 from (by repeat first | exact Below.refl _ _ | (with_reducible refine Below.trans ?_ (Below.mono (by with_reducible assumption) ?_)) | (with_reducible refine Below.alloc_ ?_ ?_ _) | (with_reducible refine Below.drew ?_) | (with_reducible refine Below.set2 ?_ ?_) | exact Nat.le_refl _ | omega | focus (simp <;> omega)))
  have hs1 : w.heap.size ≤ w1.heap.size := HB1.out.size
  clear hb1
  go_wp2_with fail
  refine Calls.mono (few_any b0 A0 n0 c0 _ true G0.out) ?_
  rintro e w2 ⟨rfl, hb2⟩
  have hz2 : w1.heap.size ≤ w2.heap.size := (by have hz := hb2.size; (try simp at hz); omega)
  have k2_a0 := Blk.below (g := w.heap.size) (t := 41) (cs := #[.bool b0, .slice A0 n0 c0]) (by repeat (first | (with_reducible first | assumption | (refine Hid.out ?_; assumption) | apply Blk.drew_) | ((with_reducible refine Blk.new _ _ ?_ _ _) <;> (first | rfl | (simp; done))) | (with_reducible first | refine Blk.alloc_ ?_ _ | apply Blk.own2 | refine Blk.other2 ?_ (by omega) | (apply Blk.below; rotate_left; assumption)))) hb2
  have p2_a0 := k2_a0.cell0
  have d2_a0 : w.heap.size < w2.heap.size := k2_a0.lt
  have q2_a0 := k2_a0.cell1
  have K2_a0 := Lib.hid k2_a0; clear k2_a0
  have k2_a1 := Blk.below (g := w.heap.size + 1) (t := 41) (cs := #[.bool b1, .slice A1 n1 c1]) (by repeat (first | (with_reducible first | assumption | (refine Hid.out ?_; assumption) | apply Blk.drew_) | ((with_reducible refine Blk.new _ _ ?_ _ _) <;> (first | rfl | (simp; done))) | (with_reducible first | refine Blk.alloc_ ?_ _ | apply Blk.own2 | refine Blk.other2 ?_ (by omega) | (apply Blk.below; rotate_left; assumption)))) hb2
  have p2_a1 := k2_a1.cell0
  have d2_a1 : w.heap.size + 1 < w2.heap.size := k2_a1.lt
  have q2_a1 := k2_a1.cell1
  have K2_a1 := Lib.hid k2_a1; clear k2_a1
  have f0_2 := Lib.hid (show LimI 14 w2 (.agg #[.bool b0, .slice A0 n0 c0]) X0 from (by repeat (with_reducible first | assumption | (refine Hid.out ?_; assumption) | apply LimI.drew_ | apply IsInt.drew_ | refine LimI.alloc_ ?_ _ | refine IsInt.alloc_ ?_ _ | (apply LimI.below; rotate_left; assumption) | (apply IsInt.below; rotate_left; assumption))))
  have f1_2 := Lib.hid (show LimI 14 w2 (.agg #[.bool b1, .slice A1 n1 c1]) X1 from (by repeat (with_reducible first | assumption | (refine Hid.out ?_; assumption) | apply LimI.drew_ | apply IsInt.drew_ | refine LimI.alloc_ ?_ _ | refine IsInt.alloc_ ?_ _ | (apply LimI.below; rotate_left; assumption) | (apply IsInt.below; rotate_left; assumption))))
  have HB2 := Lib.hid (show Below w.heap.size w w2 from (by repeat first | exact Below.refl _ _ | exact HB1.out | (with_reducible refine Below.trans ?_ (Below.mono (by with_reducible assumption) ?_)) | (with_reducible refine Below.alloc_ ?_ ?_ _) | (with_reducible refine Below.drew ?_) | (with_reducible refine Below.set2 ?_ ?_) | exact Nat.le_refl _ | omega | focus (simp <;> omega)))
  have hs2 : w.heap.size ≤ w2.heap.size := HB2.out.size
  clear K1_a0 K1_a1 f0_1 f1_1 HB1 hb2
  go_wp2_with fail
  refine Calls.mono (few_any b1 A1 n1 c1 _ true G1.out) ?_
  rintro e w3 ⟨rfl, hb3⟩
  have hz3 : w2.heap.size ≤ w3.heap.size := (by have hz := hb3.size; (try simp at hz); omega)
  have k3_a0 := Blk.below (g := w.heap.size) (t := 41) (cs := #[.bool b0, .slice A0 n0 c0]) (by repeat (first | (with_reducible first | assumption | (refine Hid.out ?_; assumption) | apply Blk.drew_) | ((with_reducible refine Blk.new _ _ ?_ _ _) <;> (first | rfl | (simp; done))) | (with_reducible first | refine Blk.alloc_ ?_ _ | apply Blk.own2 | refine Blk.other2 ?_ (by omega) | (apply Blk.below; rotate_left; assumption)))) hb3
  have p3_a0 := k3_a0.cell0
  have d3_a0 : w.heap.size < w3.heap.size := k3_a0.lt
  have q3_a0 := k3_a0.cell1
  have K3_a0 := Lib.hid k3_a0; clear k3_a0
  have k3_a1 := Blk.below (g := w.heap.size + 1) (t := 41) (cs := #[.bool b1, .slice A1 n1 c1]) (by repeat (first | (with_reducible first | assumption | (refine Hid.out ?_; assumption) | apply Blk.drew_) | ((with_reducible refine Blk.new _ _ ?_ _ _) <;> (first | rfl | (simp; done))) | (with_reducible first | refine Blk.alloc_ ?_ _ | apply Blk.own2 | refine Blk.other2 ?_ (by omega) | (apply Blk.below; rotate_left; assumption)))) hb3
  have p3_a1 := k3_a1.cell0
  have d3_a1 : w.heap.size + 1 < w3.heap.size := k3_a1.lt
  have q3_a1 := k3_a1.cell1
  have K3_a1 := Lib.hid k3_a1; clear k3_a1
  have f0_3 := Lib.hid (show LimI 14 w3 (.agg #[.bool b0, .slice A0 n0 c0]) X0 from (by repeat (with_reducible first | assumption | (refine Hid.out ?_; assumption) | apply LimI.drew_ | apply IsInt.drew_ | refine LimI.alloc_ ?_ _ | refine IsInt.alloc_ ?_ _ | (apply LimI.below; rotate_left; assumption) | (apply IsInt.below; rotate_left; assumption))))
  have f1_3 := Lib.hid (show LimI 14 w3 (.agg #[.bool b1, .slice A1 n1 c1]) X1 from (by repeat (with_reducible first | assumption | (refine Hid.out ?_; assumption) | apply LimI.drew_ | apply IsInt.drew_ | refine LimI.alloc_ ?_ _ | refine IsInt.alloc_ ?_ _ | (apply LimI.below; rotate_left; assumption) | (apply IsInt.below; rotate_left; assumption))))
  have HB3 := Lib.hid (show Below w.heap.size w w3 from (by repeat first | exact Below.refl _ _ | exact HB2.out | (with_reducible refine Below.trans ?_ (Below.mono (by with_reducible assumption) ?_)) | (with_reducible refine Below.alloc_ ?_ ?_ _) | (with_reducible refine Below.drew ?_) | (with_reducible refine Below.set2 ?_ ?_) | exact Nat.le_refl _ | omega | focus (simp <;> omega)))
  have hs3 : w.heap.size ≤ w3.heap.size := HB3.out.size
  clear K2_a0 K2_a1 f0_2 f1_2 HB2 hb3
  go_wp2_with fail
  refine Calls.mono (li_small_val (k := 14) (X := X0) (by repeat (with_reducible first | assumption | (refine Hid.out ?_; assumption) | apply LimI.drew_ | apply IsInt.drew_ | refine LimI.alloc_ ?_ _ | refine IsInt.alloc_ ?_ _ | (apply LimI.below; rotate_left; assumption) | (apply IsInt.below; rotate_left; assumption))) (by omega)) ?_
  rintro e w4 ⟨rfl, hb4⟩
  have hz4 : w3.heap.size ≤ w4.heap.size := (by have hz := hb4.size; (try simp at hz); omega)
  have k4_a0 := Blk.below (g := w.heap.size) (t := 41) (cs := #[.bool b0, .slice A0 n0 c0]) (by repeat (first | (with_reducible first | assumption | (refine Hid.out ?_; assumption) | apply Blk.drew_) | ((with_reducible refine Blk.new _ _ ?_ _ _) <;> (first | rfl | (simp; done))) | (with_reducible first | refine Blk.alloc_ ?_ _ | apply Blk.own2 | refine Blk.other2 ?_ (by omega) | (apply Blk.below; rotate_left; assumption)))) hb4
  have p4_a0 := k4_a0.cell0
  have d4_a0 : w.heap.size < w4.heap.size := k4_a0.lt
  have q4_a0 := k4_a0.cell1
  have K4_a0 := Lib.hid k4_a0; clear k4_a0
  have k4_a1 := Blk.below (g := w.heap.size + 1) (t := 41) (cs := #[.bool b1, .slice A1 n1 c1]) (by repeat (first | (with_reducible first | assumption | (refine Hid.out ?_; assumption) | apply Blk.drew_) | ((with_reducible refine Blk.new _ _ ?_ _ _) <;> (first | rfl | (simp; done))) | (with_reducible first | refine Blk.alloc_ ?_ _ | apply Blk.own2 | refine Blk.other2 ?_ (by omega) | (apply Blk.below; rotate_left; assumption)))) hb4
  have p4_a1 := k4_a1.cell0
  have d4_a1 : w.heap.size + 1 < w4.heap.size := k4_a1.lt
  have q4_a1 := k4_a1.cell1
  have K4_a1 := Lib.hid k4_a1; clear k4_a1
  have f0_4 := Lib.hid (show LimI 14 w4 (.agg #[.bool b0, .slice A0 n0 c0]) X0 from (by repeat (with_reducible first | assumption | (refine Hid.out ?_; assumption) | apply LimI.drew_ | apply IsInt.drew_ | refine LimI.alloc_ ?_ _ | refine IsInt.alloc_ ?_ _ | (apply LimI.below; rotate_left; assumption) | (apply IsInt.below; rotate_left; assumption))))
  have f1_4 := Lib.hid (show LimI 14 w4 (.agg #[.bool b1, .slice A1 n1 c1]) X1 from (by repeat (with_reducible first | assumption | (refine Hid.out ?_; assumption) | apply LimI.drew_ | apply IsInt.drew_ | refine LimI.alloc_ ?_ _ | refine IsInt.alloc_ ?_ _ | (apply LimI.below; rotate_left; assumption) | (apply IsInt.below; rotate_left; assumption))))
  have HB4 := Lib.hid (show Below w.heap.size w w4 from (by repeat first | exact Below.refl _ _ | exact HB3.out | (with_reducible refine Below.trans ?_ (Below.mono (by with_reducible assumption) ?_)) | (with_reducible refine Below.alloc_ ?_ ?_ _) | (with_reducible refine Below.drew ?_) | (with_reducible refine Below.set2 ?_ ?_) | exact Nat.le_refl _ | omega | focus (simp <;> omega)))
  have hs4 : w.heap.size ≤ w4.heap.size := HB4.out.size
  clear K3_a0 K3_a1 f0_3 f1_3 HB3 hb4
  go_wp2_with fail
  refine Calls.mono (li_rsmall_val (k := 14) (X := X0) (by repeat (with_reducible first | assumption | (refine Hid.out ?_; assumption) | apply LimI.drew_ | apply IsInt.drew_ | refine LimI.alloc_ ?_ _ | refine IsInt.alloc_ ?_ _ | (apply LimI.below; rotate_left; assumption) | (apply IsInt.below; rotate_left; assumption))) (by omega)) ?_
  rintro e w5 ⟨rfl, hb5⟩
  have hz5 : w4.heap.size ≤ w5.heap.size := (by have hz := hb5.size; (try simp at hz); omega)
  have k5_a0 := Blk.below (g := w.heap.size) (t := 41) (cs := #[.bool b0, .slice A0 n0 c0]) (by repeat (first | (with_reducible first | assumption | (refine Hid.out ?_; assumption) | apply Blk.drew_) | ((with_reducible refine Blk.new _ _ ?_ _ _) <;> (first | rfl | (simp; done))) | (with_reducible first | refine Blk.alloc_ ?_ _ | apply Blk.own2 | refine Blk.other2 ?_ (by omega) | (apply Blk.below; rotate_left; assumption)))) hb5
  have p5_a0 := k5_a0.cell0
  have d5_a0 : w.heap.size < w5.heap.size := k5_a0.lt
  have q5_a0 := k5_a0.cell1
  have K5_a0 := Lib.hid k5_a0; clear k5_a0
  have k5_a1 := Blk.below (g := w.heap.size + 1) (t := 41) (cs := #[.bool b1, .slice A1 n1 c1]) (by repeat (first | (with_reducible first | assumption | (refine Hid.out ?_; assumption) | apply Blk.drew_) | ((with_reducible refine Blk.new _ _ ?_ _ _) <;> (first | rfl | (simp; done))) | (with_reducible first | refine Blk.alloc_ ?_ _ | apply Blk.own2 | refine Blk.other2 ?_ (by omega) | (apply Blk.below; rotate_left; assumption)))) hb5
  have p5_a1 := k5_a1.cell0
  have d5_a1 : w.heap.size + 1 < w5.heap.size := k5_a1.lt
  have q5_a1 := k5_a1.cell1
  have K5_a1 := Lib.hid k5_a1; clear k5_a1
  have f0_5 := Lib.hid (show LimI 14 w5 (.agg #[.bool b0, .slice A0 n0 c0]) X0 from (by repeat (with_reducible first | assumption | (refine Hid.out ?_; assumption) | apply LimI.drew_ | apply IsInt.drew_ | refine LimI.alloc_ ?_ _ | refine IsInt.alloc_ ?_ _ | (apply LimI.below; rotate_left; assumption) | (apply IsInt.below; rotate_left; assumption))))
  have f1_5 := Lib.hid (show LimI 14 w5 (.agg #[.bool b1, .slice A1 n1 c1]) X1 from (by repeat (with_reducible first | assumption | (refine Hid.out ?_; assumption) | apply LimI.drew_ | apply IsInt.drew_ | refine LimI.alloc_ ?_ _ | refine IsInt.alloc_ ?_ _ | (apply LimI.below; rotate_left; assumption) | (apply IsInt.below; rotate_left; assumption))))
  have HB5 := Lib.hid (show Below w.heap.size w w5 from (by repeat first | exact Below.refl _ _ | exact HB4.out | (with_reducible refine Below.trans ?_ (Below.mono (by with_reducible assumption) ?_)) | (with_reducible refine Below.alloc_ ?_ ?_ _) | (with_reducible refine Below.drew ?_) | (with_reducible refine Below.set2 ?_ ?_) | exact Nat.le_refl _ | omega | focus (simp <;> omega)))
  have hs5 : w.heap.size ≤ w5.heap.size := HB5.out.size
  clear K4_a0 K4_a1 f0_4 f1_4 HB4 hb5
  go_wp2_with fail
  refine Calls.mono (of_any nn _ HV.out.1 HV.out.2) ?_
  rintro e w6 ⟨v6, rfl, h6, hb6⟩
  have hz6 : w5.heap.size ≤ w6.heap.size := (by have hz := hb6.size; (try simp at hz); omega)
  have k6_a0 := Blk.below (g := w.heap.size) (t := 41) (cs := #[.bool b0, .slice A0 n0 c0]) (by repeat (first | (with_reducible first | assumption | (refine Hid.out ?_; assumption) | apply Blk.drew_) | ((with_reducible refine Blk.new _ _ ?_ _ _) <;> (first | rfl | (simp; done))) | (with_reducible first | refine Blk.alloc_ ?_ _ | apply Blk.own2 | refine Blk.other2 ?_ (by omega) | (apply Blk.below; rotate_left; assumption)))) hb6
  have p6_a0 := k6_a0.cell0
  have d6_a0 : w.heap.size < w6.heap.size := k6_a0.lt
  have q6_a0 := k6_a0.cell1
  have K6_a0 := Lib.hid k6_a0; clear k6_a0
  have k6_a1 := Blk.below (g := w.heap.size + 1) (t := 41) (cs := #[.bool b1, .slice A1 n1 c1]) (by repeat (first | (with_reducible first | assumption | (refine Hid.out ?_; assumption) | apply Blk.drew_) | ((with_reducible refine Blk.new _ _ ?_ _ _) <;> (first | rfl | (simp; done))) | (with_reducible first | refine Blk.alloc_ ?_ _ | apply Blk.own2 | refine Blk.other2 ?_ (by omega) | (apply Blk.below; rotate_left; assumption)))) hb6
  have p6_a1 := k6_a1.cell0
  have d6_a1 : w.heap.size + 1 < w6.heap.size := k6_a1.lt
  have q6_a1 := k6_a1.cell1
  have K6_a1 := Lib.hid k6_a1; clear k6_a1
  have f0_6 := Lib.hid (show LimI 14 w6 (.agg #[.bool b0, .slice A0 n0 c0]) X0 from (by repeat (with_reducible first | assumption | (refine Hid.out ?_; assumption) | apply LimI.drew_ | apply IsInt.drew_ | refine LimI.alloc_ ?_ _ | refine IsInt.alloc_ ?_ _ | (apply LimI.below; rotate_left; assumption) | (apply IsInt.below; rotate_left; assumption))))
  have f1_6 := Lib.hid (show LimI 14 w6 (.agg #[.bool b1, .slice A1 n1 c1]) X1 from (by repeat (with_reducible first | assumption | (refine Hid.out ?_; assumption) | apply LimI.drew_ | apply IsInt.drew_ | refine LimI.alloc_ ?_ _ | refine IsInt.alloc_ ?_ _ | (apply LimI.below; rotate_left; assumption) | (apply IsInt.below; rotate_left; assumption))))
  have o_6 := Lib.hid (show IsInt w6 v6 nn from h6)
  have HB6 := Lib.hid (show Below w.heap.size w w6 from (by repeat first | exact Below.refl _ _ | exact HB5.out | (with_reducible refine Below.trans ?_ (Below.mono (by with_reducible assumption) ?_)) | (with_reducible refine Below.alloc_ ?_ ?_ _) | (with_reducible refine Below.drew ?_) | (with_reducible refine Below.set2 ?_ ?_) | exact Nat.le_refl _ | omega | focus (simp <;> omega)))
  have hs6 : w.heap.size ≤ w6.heap.size := HB6.out.size
  clear K5_a0 K5_a1 f0_5 f1_5 HB5 hb6
  go_wp2_with fail
  refine Calls.mono (li_small_is (k := 2) (X := nn) (IsInt.lim (k := 2) (Z := nn) (by repeat (with_reducible first | assumption | (refine Hid.out ?_; assumption) | apply LimI.drew_ | apply IsInt.drew_ | refine LimI.alloc_ ?_ _ | refine IsInt.alloc_ ?_ _ | (apply LimI.below; rotate_left; assumption) | (apply IsInt.below; rotate_left; assumption))) HNN.out) (by omega) HV.out.1 HV.out.2) ?_
  rintro e w7 ⟨rfl, hb7⟩
  have hz7 : w6.heap.size ≤ w7.heap.size := (by have hz := hb7.size; (try simp at hz); omega)
  have k7_a0 := Blk.below (g := w.heap.size) (t := 41) (cs := #[.bool b0, .slice A0 n0 c0]) (by repeat (first | (with_reducible first | assumption | (refine Hid.out ?_; assumption) | apply Blk.drew_) | ((with_reducible refine Blk.new _ _ ?_ _ _) <;> (first | rfl | (simp; done))) | (with_reducible first | refine Blk.alloc_ ?_ _ | apply Blk.own2 | refine Blk.other2 ?_ (by omega) | (apply Blk.below; rotate_left; assumption)))) hb7
  have p7_a0 := k7_a0.cell0
  have d7_a0 : w.heap.size < w7.heap.size := k7_a0.lt
  have q7_a0 := k7_a0.cell1
  have K7_a0 := Lib.hid k7_a0; clear k7_a0
  have k7_a1 := Blk.below (g := w.heap.size + 1) (t := 41) (cs := #[.bool b1, .slice A1 n1 c1]) (by repeat (first | (with_reducible first | assumption | (refine Hid.out ?_; assumption) | apply Blk.drew_) | ((with_reducible refine Blk.new _ _ ?_ _ _) <;> (first | rfl | (simp; done))) | (with_reducible first | refine Blk.alloc_ ?_ _ | apply Blk.own2 | refine Blk.other2 ?_ (by omega) | (apply Blk.below; rotate_left; assumption)))) hb7
  have p7_a1 := k7_a1.cell0
  have d7_a1 : w.heap.size + 1 < w7.heap.size := k7_a1.lt
  have q7_a1 := k7_a1.cell1
  have K7_a1 := Lib.hid k7_a1; clear k7_a1
  have f0_7 := Lib.hid (show LimI 14 w7 (.agg #[.bool b0, .slice A0 n0 c0]) X0 from (by repeat (with_reducible first | assumption | (refine Hid.out ?_; assumption) | apply LimI.drew_ | apply IsInt.drew_ | refine LimI.alloc_ ?_ _ | refine IsInt.alloc_ ?_ _ | (apply LimI.below; rotate_left; assumption) | (apply IsInt.below; rotate_left; assumption))))
  have f1_7 := Lib.hid (show LimI 14 w7 (.agg #[.bool b1, .slice A1 n1 c1]) X1 from (by repeat (with_reducible first | assumption | (refine Hid.out ?_; assumption) | apply LimI.drew_ | apply IsInt.drew_ | refine LimI.alloc_ ?_ _ | refine IsInt.alloc_ ?_ _ | (apply LimI.below; rotate_left; assumption) | (apply IsInt.below; rotate_left; assumption))))
  have HB7 := Lib.hid (show Below w.heap.size w w7 from (by repeat first | exact Below.refl _ _ | exact HB6.out | (with_reducible refine Below.trans ?_ (Below.mono (by with_reducible assumption) ?_)) | (with_reducible refine Below.alloc_ ?_ ?_ _) | (with_reducible refine Below.drew ?_) | (with_reducible refine Below.set2 ?_ ?_) | exact Nat.le_refl _ | omega | focus (simp <;> omega)))
  have hs7 : w.heap.size ≤ w7.heap.size := HB7.out.size
  clear K6_a0 K6_a1 f0_6 f1_6 o_6 HB6 hb7
  go_wp2_with fail
  refine Calls.mono (HD1.out 14 14 _ _ _ (by repeat (with_reducible first | assumption | (refine Hid.out ?_; assumption) | apply LimI.drew_ | apply IsInt.drew_ | refine LimI.alloc_ ?_ _ | refine IsInt.alloc_ ?_ _ | (apply LimI.below; rotate_left; assumption) | (apply IsInt.below; rotate_left; assumption))) (by repeat (with_reducible first | assumption | (refine Hid.out ?_; assumption) | apply LimI.drew_ | apply IsInt.drew_ | refine LimI.alloc_ ?_ _ | refine IsInt.alloc_ ?_ _ | (apply LimI.below; rotate_left; assumption) | (apply IsInt.below; rotate_left; assumption))) (by omega) (by omega)) ?_
  rintro e w8 ⟨vq, vr, rfl, hq8, hr8, hb8⟩
  obtain ⟨bhq8, Ahq8, nhq8, chq8, rfl, -, -, hq8⟩ := hq8.form
  obtain ⟨bhr8, Ahr8, nhr8, chr8, rfl, shr8, zhr8, hr8⟩ := hr8.form
  have hln : ((nhr8 : Int) == 0) = true := (by rw [beq_iff_eq];have hz0 := zhr8.1;omega)
  clear shr8 zhr8
  have hz8 : w7.heap.size ≤ w8.heap.size := (by have hz := hb8.size; (try simp at hz); omega)
  have k8_a0 := Blk.below (g := w.heap.size) (t := 41) (cs := #[.bool b0, .slice A0 n0 c0]) (by repeat (first | (with_reducible first | assumption | (refine Hid.out ?_; assumption) | apply Blk.drew_) | ((with_reducible refine Blk.new _ _ ?_ _ _) <;> (first | rfl | (simp; done))) | (with_reducible first | refine Blk.alloc_ ?_ _ | apply Blk.own2 | refine Blk.other2 ?_ (by omega) | (apply Blk.below; rotate_left; assumption)))) hb8
  have p8_a0 := k8_a0.cell0
  have d8_a0 : w.heap.size < w8.heap.size := k8_a0.lt
  have q8_a0 := k8_a0.cell1
  have K8_a0 := Lib.hid k8_a0; clear k8_a0
  have k8_a1 := Blk.below (g := w.heap.size + 1) (t := 41) (cs := #[.bool b1, .slice A1 n1 c1]) (by repeat (first | (with_reducible first | assumption | (refine Hid.out ?_; assumption) | apply Blk.drew_) | ((with_reducible refine Blk.new _ _ ?_ _ _) <;> (first | rfl | (simp; done))) | (with_reducible first | refine Blk.alloc_ ?_ _ | apply Blk.own2 | refine Blk.other2 ?_ (by omega) | (apply Blk.below; rotate_left; assumption)))) hb8
  have p8_a1 := k8_a1.cell0
  have d8_a1 : w.heap.size + 1 < w8.heap.size := k8_a1.lt
  have q8_a1 := k8_a1.cell1
  have K8_a1 := Lib.hid k8_a1; clear k8_a1
  have f0_8 := Lib.hid (show LimI 14 w8 (.agg #[.bool b0, .slice A0 n0 c0]) X0 from (by repeat (with_reducible first | assumption | (refine Hid.out ?_; assumption) | apply LimI.drew_ | apply IsInt.drew_ | refine LimI.alloc_ ?_ _ | refine IsInt.alloc_ ?_ _ | (apply LimI.below; rotate_left; assumption) | (apply IsInt.below; rotate_left; assumption))))
  have f1_8 := Lib.hid (show LimI 14 w8 (.agg #[.bool b1, .slice A1 n1 c1]) X1 from (by repeat (with_reducible first | assumption | (refine Hid.out ?_; assumption) | apply LimI.drew_ | apply IsInt.drew_ | refine LimI.alloc_ ?_ _ | refine IsInt.alloc_ ?_ _ | (apply LimI.below; rotate_left; assumption) | (apply IsInt.below; rotate_left; assumption))))
  have q_8 := Lib.hid (show IsInt w8 (.agg #[.bool bhq8, .slice Ahq8 nhq8 chq8]) q from hq8)
  have r_8 := Lib.hid (show IsInt w8 (.agg #[.bool bhr8, .slice Ahr8 nhr8 chr8]) 0 from hr8)
  have HB8 := Lib.hid (show Below w.heap.size w w8 from (by repeat first | exact Below.refl _ _ | exact HB7.out | (with_reducible refine Below.trans ?_ (Below.mono (by with_reducible assumption) ?_)) | (with_reducible refine Below.alloc_ ?_ ?_ _) | (with_reducible refine Below.drew ?_) | (with_reducible refine Below.set2 ?_ ?_) | exact Nat.le_refl _ | omega | focus (simp <;> omega)))
  have hs8 : w.heap.size ≤ w8.heap.size := HB8.out.size
  clear K7_a0 K7_a1 f0_7 f1_7 HB7 hb8
  go_wp2_with fail
  refine Calls.mono (of_any nn _ HV.out.1 HV.out.2) ?_
  rintro e w9 ⟨v9, rfl, h9, hb9⟩
  have hz9 : w8.heap.size + 2 ≤ w9.heap.size := (by have hz := hb9.size; (try simp at hz); omega)
  have k9_a0 := Blk.below (g := w.heap.size) (t := 41) (cs := #[.bool b0, .slice A0 n0 c0]) (by repeat (first | (with_reducible first | assumption | (refine Hid.out ?_; assumption) | apply Blk.drew_) | ((with_reducible refine Blk.new _ _ ?_ _ _) <;> (first | rfl | (simp; done))) | (with_reducible first | refine Blk.alloc_ ?_ _ | apply Blk.own2 | refine Blk.other2 ?_ (by omega) | (apply Blk.below; rotate_left; assumption)))) hb9
  have p9_a0 := k9_a0.cell0
  have d9_a0 : w.heap.size < w9.heap.size := k9_a0.lt
  have q9_a0 := k9_a0.cell1
  have K9_a0 := Lib.hid k9_a0; clear k9_a0
  have k9_a1 := Blk.below (g := w.heap.size + 1) (t := 41) (cs := #[.bool b1, .slice A1 n1 c1]) (by repeat (first | (with_reducible first | assumption | (refine Hid.out ?_; assumption) | apply Blk.drew_) | ((with_reducible refine Blk.new _ _ ?_ _ _) <;> (first | rfl | (simp; done))) | (with_reducible first | refine Blk.alloc_ ?_ _ | apply Blk.own2 | refine Blk.other2 ?_ (by omega) | (apply Blk.below; rotate_left; assumption)))) hb9
  have p9_a1 := k9_a1.cell0
  have d9_a1 : w.heap.size + 1 < w9.heap.size := k9_a1.lt
  have q9_a1 := k9_a1.cell1
  have K9_a1 := Lib.hid k9_a1; clear k9_a1
  have k9_q := Blk.below (g := w8.heap.size) (t := 41) (cs := #[.bool bhq8, .slice Ahq8 nhq8 chq8]) (by repeat (first | (with_reducible first | assumption | (refine Hid.out ?_; assumption) | apply Blk.drew_) | ((with_reducible refine Blk.new _ _ ?_ _ _) <;> (first | rfl | (simp; done))) | (with_reducible first | refine Blk.alloc_ ?_ _ | apply Blk.own2 | refine Blk.other2 ?_ (by omega) | (apply Blk.below; rotate_left; assumption)))) hb9
  have p9_q := k9_q.cell0
  have d9_q : w8.heap.size < w9.heap.size := k9_q.lt
  have q9_q := k9_q.cell1
  have K9_q := Lib.hid k9_q; clear k9_q
  have k9_r := Blk.below (g := w8.heap.size + 1) (t := 41) (cs := #[.bool bhr8, .slice Ahr8 nhr8 chr8]) (by repeat (first | (with_reducible first | assumption | (refine Hid.out ?_; assumption) | apply Blk.drew_) | ((with_reducible refine Blk.new _ _ ?_ _ _) <;> (first | rfl | (simp; done))) | (with_reducible first | refine Blk.alloc_ ?_ _ | apply Blk.own2 | refine Blk.other2 ?_ (by omega) | (apply Blk.below; rotate_left; assumption)))) hb9
  have p9_r := k9_r.cell0
  have d9_r : w8.heap.size + 1 < w9.heap.size := k9_r.lt
  have q9_r := k9_r.cell1
  have K9_r := Lib.hid k9_r; clear k9_r
  have f0_9 := Lib.hid (show LimI 14 w9 (.agg #[.bool b0, .slice A0 n0 c0]) X0 from (by repeat (with_reducible first | assumption | (refine Hid.out ?_; assumption) | apply LimI.drew_ | apply IsInt.drew_ | refine LimI.alloc_ ?_ _ | refine IsInt.alloc_ ?_ _ | (apply LimI.below; rotate_left; assumption) | (apply IsInt.below; rotate_left; assumption))))
  have f1_9 := Lib.hid (show LimI 14 w9 (.agg #[.bool b1, .slice A1 n1 c1]) X1 from (by repeat (with_reducible first | assumption | (refine Hid.out ?_; assumption) | apply LimI.drew_ | apply IsInt.drew_ | refine LimI.alloc_ ?_ _ | refine IsInt.alloc_ ?_ _ | (apply LimI.below; rotate_left; assumption) | (apply IsInt.below; rotate_left; assumption))))
  have q_9 := Lib.hid (show IsInt w9 (.agg #[.bool bhq8, .slice Ahq8 nhq8 chq8]) q from (by repeat (with_reducible first | assumption | (refine Hid.out ?_; assumption) | apply LimI.drew_ | apply IsInt.drew_ | refine LimI.alloc_ ?_ _ | refine IsInt.alloc_ ?_ _ | (apply LimI.below; rotate_left; assumption) | (apply IsInt.below; rotate_left; assumption))))
  have r_9 := Lib.hid (show IsInt w9 (.agg #[.bool bhr8, .slice Ahr8 nhr8 chr8]) 0 from (by repeat (with_reducible first | assumption | (refine Hid.out ?_; assumption) | apply LimI.drew_ | apply IsInt.drew_ | refine LimI.alloc_ ?_ _ | refine IsInt.alloc_ ?_ _ | (apply LimI.below; rotate_left; assumption) | (apply IsInt.below; rotate_left; assumption))))
  have o_9 := Lib.hid (show IsInt w9 v9 nn from h9)
  have HB9 := Lib.hid (show Below w.heap.size w w9 from (by repeat first | exact Below.refl _ _ | exact HB8.out | (with_reducible refine Below.trans ?_ (Below.mono (by with_reducible assumption) ?_)) | (with_reducible refine Below.alloc_ ?_ ?_ _) | (with_reducible refine Below.drew ?_) | (with_reducible refine Below.set2 ?_ ?_) | exact Nat.le_refl _ | omega | focus (simp <;> omega)))
  have hs9 : w.heap.size ≤ w9.heap.size := HB9.out.size
  clear K8_a0 K8_a1 f0_8 f1_8 q_8 r_8 HB8 hb9
  go_wp2_with fail
  refine Calls.mono (li_text (k := 2) (X := nn) (IsInt.lim (k := 2) (Z := nn) (by repeat (with_reducible first | assumption | (refine Hid.out ?_; assumption) | apply LimI.drew_ | apply IsInt.drew_ | refine LimI.alloc_ ?_ _ | refine IsInt.alloc_ ?_ _ | (apply LimI.below; rotate_left; assumption) | (apply IsInt.below; rotate_left; assumption))) HNN.out) (by omega)) ?_
  rintro e w10 ⟨rfl, hb10⟩
  have hz10 : w9.heap.size ≤ w10.heap.size := (by have hz := hb10.size; (try simp at hz); omega)
  have k10_a0 := Blk.below (g := w.heap.size) (t := 41) (cs := #[.bool b0, .slice A0 n0 c0]) (by repeat (first | (with_reducible first | assumption | (refine Hid.out ?_; assumption) | apply Blk.drew_) | ((with_reducible refine Blk.new _ _ ?_ _ _) <;> (first | rfl | (simp; done))) | (with_reducible first | refine Blk.alloc_ ?_ _ | apply Blk.own2 | refine Blk.other2 ?_ (by omega) | (apply Blk.below; rotate_left; assumption)))) hb10
  have p10_a0 := k10_a0.cell0
  have d10_a0 : w.heap.size < w10.heap.size := k10_a0.lt
  have q10_a0 := k10_a0.cell1
  have K10_a0 := Lib.hid k10_a0; clear k10_a0
  have k10_a1 := Blk.below (g := w.heap.size + 1) (t := 41) (cs := #[.bool b1, .slice A1 n1 c1]) (by repeat (first | (with_reducible first | assumption | (refine Hid.out ?_; assumption) | apply Blk.drew_) | ((with_reducible refine Blk.new _ _ ?_ _ _) <;> (first | rfl | (simp; done))) | (with_reducible first | refine Blk.alloc_ ?_ _ | apply Blk.own2 | refine Blk.other2 ?_ (by omega) | (apply Blk.below; rotate_left; assumption)))) hb10
  have p10_a1 := k10_a1.cell0
  have d10_a1 : w.heap.size + 1 < w10.heap.size := k10_a1.lt
  have q10_a1 := k10_a1.cell1
  have K10_a1 := Lib.hid k10_a1; clear k10_a1
  have k10_q := Blk.below (g := w8.heap.size) (t := 41) (cs := #[.bool bhq8, .slice Ahq8 nhq8 chq8]) (by repeat (first | (with_reducible first | assumption | (refine Hid.out ?_; assumption) | apply Blk.drew_) | ((with_reducible refine Blk.new _ _ ?_ _ _) <;> (first | rfl | (simp; done))) | (with_reducible first | refine Blk.alloc_ ?_ _ | apply Blk.own2 | refine Blk.other2 ?_ (by omega) | (apply Blk.below; rotate_left; assumption)))) hb10
  have p10_q := k10_q.cell0
  have d10_q : w8.heap.size < w10.heap.size := k10_q.lt
  have q10_q := k10_q.cell1
  have K10_q := Lib.hid k10_q; clear k10_q
  have k10_r := Blk.below (g := w8.heap.size + 1) (t := 41) (cs := #[.bool bhr8, .slice Ahr8 nhr8 chr8]) (by repeat (first | (with_reducible first | assumption | (refine Hid.out ?_; assumption) | apply Blk.drew_) | ((with_reducible refine Blk.new _ _ ?_ _ _) <;> (first | rfl | (simp; done))) | (with_reducible first | refine Blk.alloc_ ?_ _ | apply Blk.own2 | refine Blk.other2 ?_ (by omega) | (apply Blk.below; rotate_left; assumption)))) hb10
  have p10_r := k10_r.cell0
  have d10_r : w8.heap.size + 1 < w10.heap.size := k10_r.lt
  have q10_r := k10_r.cell1
  have K10_r := Lib.hid k10_r; clear k10_r
  have f0_10 := Lib.hid (show LimI 14 w10 (.agg #[.bool b0, .slice A0 n0 c0]) X0 from (by repeat (with_reducible first | assumption | (refine Hid.out ?_; assumption) | apply LimI.drew_ | apply IsInt.drew_ | refine LimI.alloc_ ?_ _ | refine IsInt.alloc_ ?_ _ | (apply LimI.below; rotate_left; assumption) | (apply IsInt.below; rotate_left; assumption))))
  have f1_10 := Lib.hid (show LimI 14 w10 (.agg #[.bool b1, .slice A1 n1 c1]) X1 from (by repeat (with_reducible first | assumption | (refine Hid.out ?_; assumption) | apply LimI.drew_ | apply IsInt.drew_ | refine LimI.alloc_ ?_ _ | refine IsInt.alloc_ ?_ _ | (apply LimI.below; rotate_left; assumption) | (apply IsInt.below; rotate_left; assumption))))
  have q_10 := Lib.hid (show IsInt w10 (.agg #[.bool bhq8, .slice Ahq8 nhq8 chq8]) q from (by repeat (with_reducible first | assumption | (refine Hid.out ?_; assumption) | apply LimI.drew_ | apply IsInt.drew_ | refine LimI.alloc_ ?_ _ | refine IsInt.alloc_ ?_ _ | (apply LimI.below; rotate_left; assumption) | (apply IsInt.below; rotate_left; assumption))))
  have r_10 := Lib.hid (show IsInt w10 (.agg #[.bool bhr8, .slice Ahr8 nhr8 chr8]) 0 from (by repeat (with_reducible first | assumption | (refine Hid.out ?_; assumption) | apply LimI.drew_ | apply IsInt.drew_ | refine LimI.alloc_ ?_ _ | refine IsInt.alloc_ ?_ _ | (apply LimI.below; rotate_left; assumption) | (apply IsInt.below; rotate_left; assumption))))
  have HB10 := Lib.hid (show Below w.heap.size w w10 from (by repeat first | exact Below.refl _ _ | exact HB9.out | (with_reducible refine Below.trans ?_ (Below.mono (by with_reducible assumption) ?_)) | (with_reducible refine Below.alloc_ ?_ ?_ _) | (with_reducible refine Below.drew ?_) | (with_reducible refine Below.set2 ?_ ?_) | exact Nat.le_refl _ | omega | focus (simp <;> omega)))
  have hs10 : w.heap.size ≤ w10.heap.size := HB10.out.size
  clear K9_a0 K9_a1 K9_q K9_r f0_9 f1_9 q_9 r_9 o_9 HB9 hb10
  go_wp2_with fail
  refine Calls.mono (of_any nn _ HV.out.1 HV.out.2) ?_
  rintro e w11 ⟨v11, rfl, h11, hb11⟩
  have hz11 : w10.heap.size ≤ w11.heap.size := (by have hz := hb11.size; (try simp at hz); omega)
  have k11_a0 := Blk.below (g := w.heap.size) (t := 41) (cs := #[.bool b0, .slice A0 n0 c0]) (by repeat (first | (with_reducible first | assumption | (refine Hid.out ?_; assumption) | apply Blk.drew_) | ((with_reducible refine Blk.new _ _ ?_ _ _) <;> (first | rfl | (simp; done))) | (with_reducible first | refine Blk.alloc_ ?_ _ | apply Blk.own2 | refine Blk.other2 ?_ (by omega) | (apply Blk.below; rotate_left; assumption)))) hb11
  have p11_a0 := k11_a0.cell0
  have d11_a0 : w.heap.size < w11.heap.size := k11_a0.lt
  have q11_a0 := k11_a0.cell1
  have K11_a0 := Lib.hid k11_a0; clear k11_a0
  have k11_a1 := Blk.below (g := w.heap.size + 1) (t := 41) (cs := #[.bool b1, .slice A1 n1 c1]) (by repeat (first | (with_reducible first | assumption | (refine Hid.out ?_; assumption) | apply Blk.drew_) | ((with_reducible refine Blk.new _ _ ?_ _ _) <;> (first | rfl | (simp; done))) | (with_reducible first | refine Blk.alloc_ ?_ _ | apply Blk.own2 | refine Blk.other2 ?_ (by omega) | (apply Blk.below; rotate_left; assumption)))) hb11
  have p11_a1 := k11_a1.cell0
  have d11_a1 : w.heap.size + 1 < w11.heap.size := k11_a1.lt
  have q11_a1 := k11_a1.cell1
  have K11_a1 := Lib.hid k11_a1; clear k11_a1
  have k11_q := Blk.below (g := w8.heap.size) (t := 41) (cs := #[.bool bhq8, .slice Ahq8 nhq8 chq8]) (by repeat (first | (with_reducible first | assumption | (refine Hid.out ?_; assumption) | apply Blk.drew_) | ((with_reducible refine Blk.new _ _ ?_ _ _) <;> (first | rfl | (simp; done))) | (with_reducible first | refine Blk.alloc_ ?_ _ | apply Blk.own2 | refine Blk.other2 ?_ (by omega) | (apply Blk.below; rotate_left; assumption)))) hb11
  have p11_q := k11_q.cell0
  have d11_q : w8.heap.size < w11.heap.size := k11_q.lt
  have q11_q := k11_q.cell1
  have K11_q := Lib.hid k11_q; clear k11_q
  have k11_r := Blk.below (g := w8.heap.size + 1) (t := 41) (cs := #[.bool bhr8, .slice Ahr8 nhr8 chr8]) (by repeat (first | (with_reducible first | assumption | (refine Hid.out ?_; assumption) | apply Blk.drew_) | ((with_reducible refine Blk.new _ _ ?_ _ _) <;> (first | rfl | (simp; done))) | (with_reducible first | refine Blk.alloc_ ?_ _ | apply Blk.own2 | refine Blk.other2 ?_ (by omega) | (apply Blk.below; rotate_left; assumption)))) hb11
  have p11_r := k11_r.cell0
  have d11_r : w8.heap.size + 1 < w11.heap.size := k11_r.lt
  have q11_r := k11_r.cell1
  have K11_r := Lib.hid k11_r; clear k11_r
  have f0_11 := Lib.hid (show LimI 14 w11 (.agg #[.bool b0, .slice A0 n0 c0]) X0 from (by repeat (with_reducible first | assumption | (refine Hid.out ?_; assumption) | apply LimI.drew_ | apply IsInt.drew_ | refine LimI.alloc_ ?_ _ | refine IsInt.alloc_ ?_ _ | (apply LimI.below; rotate_left; assumption) | (apply IsInt.below; rotate_left; assumption))))
  have f1_11 := Lib.hid (show LimI 14 w11 (.agg #[.bool b1, .slice A1 n1 c1]) X1 from (by repeat (with_reducible first | assumption | (refine Hid.out ?_; assumption) | apply LimI.drew_ | apply IsInt.drew_ | refine LimI.alloc_ ?_ _ | refine IsInt.alloc_ ?_ _ | (apply LimI.below; rotate_left; assumption) | (apply IsInt.below; rotate_left; assumption))))
  have q_11 := Lib.hid (show IsInt w11 (.agg #[.bool bhq8, .slice Ahq8 nhq8 chq8]) q from (by repeat (with_reducible first | assumption | (refine Hid.out ?_; assumption) | apply LimI.drew_ | apply IsInt.drew_ | refine LimI.alloc_ ?_ _ | refine IsInt.alloc_ ?_ _ | (apply LimI.below; rotate_left; assumption) | (apply IsInt.below; rotate_left; assumption))))
  have r_11 := Lib.hid (show IsInt w11 (.agg #[.bool bhr8, .slice Ahr8 nhr8 chr8]) 0 from (by repeat (with_reducible first | assumption | (refine Hid.out ?_; assumption) | apply LimI.drew_ | apply IsInt.drew_ | refine LimI.alloc_ ?_ _ | refine IsInt.alloc_ ?_ _ | (apply LimI.below; rotate_left; assumption) | (apply IsInt.below; rotate_left; assumption))))
  have o_11 := Lib.hid (show IsInt w11 v11 nn from h11)
  have HB11 := Lib.hid (show Below w.heap.size w w11 from (by repeat first | exact Below.refl _ _ | exact HB10.out | (with_reducible refine Below.trans ?_ (Below.mono (by with_reducible assumption) ?_)) | (with_reducible refine Below.alloc_ ?_ ?_ _) | (with_reducible refine Below.drew ?_) | (with_reducible refine Below.set2 ?_ ?_) | exact Nat.le_refl _ | omega | focus (simp <;> omega)))
  have hs11 : w.heap.size ≤ w11.heap.size := HB11.out.size
  clear K10_a0 K10_a1 K10_q K10_r f0_10 f1_10 q_10 r_10 HB10 hb11
  go_wp2_with fail
  refine Calls.mono (li_rtext (k := 2) (X := nn) (IsInt.lim (k := 2) (Z := nn) (by repeat (with_reducible first | assumption | (refine Hid.out ?_; assumption) | apply LimI.drew_ | apply IsInt.drew_ | refine LimI.alloc_ ?_ _ | refine IsInt.alloc_ ?_ _ | (apply LimI.below; rotate_left; assumption) | (apply IsInt.below; rotate_left; assumption))) HNN.out) (by omega)) ?_
  rintro e w12 ⟨rfl, hb12⟩
  have hz12 : w11.heap.size ≤ w12.heap.size := (by have hz := hb12.size; (try simp at hz); omega)
  have k12_a0 := Blk.below (g := w.heap.size) (t := 41) (cs := #[.bool b0, .slice A0 n0 c0]) (by repeat (first | (with_reducible first | assumption | (refine Hid.out ?_; assumption) | apply Blk.drew_) | ((with_reducible refine Blk.new _ _ ?_ _ _) <;> (first | rfl | (simp; done))) | (with_reducible first | refine Blk.alloc_ ?_ _ | apply Blk.own2 | refine Blk.other2 ?_ (by omega) | (apply Blk.below; rotate_left; assumption)))) hb12
  have p12_a0 := k12_a0.cell0
  have d12_a0 : w.heap.size < w12.heap.size := k12_a0.lt
  have q12_a0 := k12_a0.cell1
  have K12_a0 := Lib.hid k12_a0; clear k12_a0
  have k12_a1 := Blk.below (g := w.heap.size + 1) (t := 41) (cs := #[.bool b1, .slice A1 n1 c1]) (by repeat (first | (with_reducible first | assumption | (refine Hid.out ?_; assumption) | apply Blk.drew_) | ((with_reducible refine Blk.new _ _ ?_ _ _) <;> (first | rfl | (simp; done))) | (with_reducible first | refine Blk.alloc_ ?_ _ | apply Blk.own2 | refine Blk.other2 ?_ (by omega) | (apply Blk.below; rotate_left; assumption)))) hb12
  have p12_a1 := k12_a1.cell0
  have d12_a1 : w.heap.size + 1 < w12.heap.size := k12_a1.lt
  have q12_a1 := k12_a1.cell1
  have K12_a1 := Lib.hid k12_a1; clear k12_a1
  have k12_q := Blk.below (g := w8.heap.size) (t := 41) (cs := #[.bool bhq8, .slice Ahq8 nhq8 chq8]) (by repeat (first | (with_reducible first | assumption | (refine Hid.out ?_; assumption) | apply Blk.drew_) | ((with_reducible refine Blk.new _ _ ?_ _ _) <;> (first | rfl | (simp; done))) | (with_reducible first | refine Blk.alloc_ ?_ _ | apply Blk.own2 | refine Blk.other2 ?_ (by omega) | (apply Blk.below; rotate_left; assumption)))) hb12
  have p12_q := k12_q.cell0
  have d12_q : w8.heap.size < w12.heap.size := k12_q.lt
  have q12_q := k12_q.cell1
  have K12_q := Lib.hid k12_q; clear k12_q
  have k12_r := Blk.below (g := w8.heap.size + 1) (t := 41) (cs := #[.bool bhr8, .slice Ahr8 nhr8 chr8]) (by repeat (first | (with_reducible first | assumption | (refine Hid.out ?_; assumption) | apply Blk.drew_) | ((with_reducible refine Blk.new _ _ ?_ _ _) <;> (first | rfl | (simp; done))) | (with_reducible first | refine Blk.alloc_ ?_ _ | apply Blk.own2 | refine Blk.other2 ?_ (by omega) | (apply Blk.below; rotate_left; assumption)))) hb12
  have p12_r := k12_r.cell0
  have d12_r : w8.heap.size + 1 < w12.heap.size := k12_r.lt
  have q12_r := k12_r.cell1
  have K12_r := Lib.hid k12_r; clear k12_r
  have f0_12 := Lib.hid (show LimI 14 w12 (.agg #[.bool b0, .slice A0 n0 c0]) X0 from (by repeat (with_reducible first | assumption | (refine Hid.out ?_; assumption) | apply LimI.drew_ | apply IsInt.drew_ | refine LimI.alloc_ ?_ _ | refine IsInt.alloc_ ?_ _ | (apply LimI.below; rotate_left; assumption) | (apply IsInt.below; rotate_left; assumption))))
  have f1_12 := Lib.hid (show LimI 14 w12 (.agg #[.bool b1, .slice A1 n1 c1]) X1 from (by repeat (with_reducible first | assumption | (refine Hid.out ?_; assumption) | apply LimI.drew_ | apply IsInt.drew_ | refine LimI.alloc_ ?_ _ | refine IsInt.alloc_ ?_ _ | (apply LimI.below; rotate_left; assumption) | (apply IsInt.below; rotate_left; assumption))))
  have q_12 := Lib.hid (show IsInt w12 (.agg #[.bool bhq8, .slice Ahq8 nhq8 chq8]) q from (by repeat (with_reducible first | assumption | (refine Hid.out ?_; assumption) | apply LimI.drew_ | apply IsInt.drew_ | refine LimI.alloc_ ?_ _ | refine IsInt.alloc_ ?_ _ | (apply LimI.below; rotate_left; assumption) | (apply IsInt.below; rotate_left; assumption))))
  have r_12 := Lib.hid (show IsInt w12 (.agg #[.bool bhr8, .slice Ahr8 nhr8 chr8]) 0 from (by repeat (with_reducible first | assumption | (refine Hid.out ?_; assumption) | apply LimI.drew_ | apply IsInt.drew_ | refine LimI.alloc_ ?_ _ | refine IsInt.alloc_ ?_ _ | (apply LimI.below; rotate_left; assumption) | (apply IsInt.below; rotate_left; assumption))))
  have HB12 := Lib.hid (show Below w.heap.size w w12 from (by repeat first | exact Below.refl _ _ | exact HB11.out | (with_reducible refine Below.trans ?_ (Below.mono (by with_reducible assumption) ?_)) | (with_reducible refine Below.alloc_ ?_ ?_ _) | (with_reducible refine Below.drew ?_) | (with_reducible refine Below.set2 ?_ ?_) | exact Nat.le_refl _ | omega | focus (simp <;> omega)))
  have hs12 : w.heap.size ≤ w12.heap.size := HB12.out.size
  clear K11_a0 K11_a1 K11_q K11_r f0_11 f1_11 q_11 r_11 o_11 HB11 hb12
  go_wp2
  have kr_a0 := K12_a0.out
  have pr_a0 := kr_a0.cell0
  have qr_a0 := kr_a0.cell1
  clear kr_a0
  have kr_a1 := K12_a1.out
  have pr_a1 := kr_a1.cell0
  have qr_a1 := kr_a1.cell1
  clear kr_a1
  have kr_q := K12_q.out
  have pr_q := kr_q.cell0
  have qr_q := kr_q.cell1
  clear kr_q
  have kr_r := K12_r.out
  have pr_r := kr_r.cell0
  have qr_r := kr_r.cell1
  clear kr_r
  have tok0 : True := trivial
  have tok1 : True := trivial
  have tok2 : True := trivial
  have tok3 : True := trivial
  have tok4 : True := trivial
  refine wp_region_held_drew (S := (fun w' => w'.cell? ⟨w.heap.size, 0, none⟩ = some (.bool b0) ∧ w'.cell? ⟨w.heap.size, 1, none⟩ = some (.slice A0 n0 c0) ∧ w'.cell? ⟨w.heap.size + 1, 0, none⟩ = some (.bool b1) ∧ w'.cell? ⟨w.heap.size + 1, 1, none⟩ = some (.slice A1 n1 c1) ∧ w'.cell? ⟨w8.heap.size, 0, none⟩ = some (.bool bhq8) ∧ w'.cell? ⟨w8.heap.size, 1, none⟩ = some (.slice Ahq8 nhq8 chq8) ∧ w'.cell? ⟨w8.heap.size + 1, 0, none⟩ = some (.bool bhr8) ∧ w'.cell? ⟨w8.heap.size + 1, 1, none⟩ = some (.slice Ahr8 nhr8 chr8))) (by kernel_rfl) ?_ (fun hHeld => ?_)
  · (refine ⟨?_, ?_, ?_, ?_, ?_, ?_, ?_, ?_⟩ <;> first | with_reducible assumption | ((with_reducible refine Eq.trans (cell_drew _ _) ?_); with_reducible assumption) | ((repeat rw [cell_far2 _ _ _ _ _ _ (by omega)]); with_reducible assumption) | go_keep)
  refine wpAnyH_take (i := 0) (v := ?_) rfl (by kernel_rfl) (by kernel_rfl) (by kernel_rfl) (fun _ _ _ h => h) (Or.inl ⟨by kernel_rfl, ?_⟩) (by assumption) ?_
  rotate_left
  · intro w hSw; (try dsimp only at hSw); go_simp <;> (try with_reducible rfl)
  (try simp only [Act.put, List.setIfInBounds_toArray, List.set_cons_zero, List.set_cons_succ, List.getElem_toArray, List.getElem_cons_succ, List.getElem_cons_zero])
  refine wpAnyH_take (i := 1) (v := ?_) rfl (by kernel_rfl) (by kernel_rfl) (by kernel_rfl) (fun _ _ _ h => h) (Or.inl ⟨by kernel_rfl, ?_⟩) (by assumption) ?_
  rotate_left
  · intro w hSw; (try dsimp only at hSw); go_simp <;> (try with_reducible rfl)
  (try simp only [Act.put, List.setIfInBounds_toArray, List.set_cons_zero, List.set_cons_succ, List.getElem_toArray, List.getElem_cons_succ, List.getElem_cons_zero])
  refine wpAnyH_take (i := 2) (v := ?_) rfl (by kernel_rfl) (by kernel_rfl) (by kernel_rfl) (fun _ _ _ h => h) (Or.inl ⟨by kernel_rfl, ?_⟩) (by assumption) ?_
  rotate_left
  · intro w hSw; (try dsimp only at hSw); go_simp <;> (try with_reducible rfl)
  (try simp only [Act.put, List.setIfInBounds_toArray, List.set_cons_zero, List.set_cons_succ, List.getElem_toArray, List.getElem_cons_succ, List.getElem_cons_zero])
  refine wpAnyH_take (i := 3) (v := ?_) rfl (by kernel_rfl) (by kernel_rfl) (by kernel_rfl) (fun _ _ _ h => h) (Or.inl ⟨by kernel_rfl, ?_⟩) (by assumption) ?_
  rotate_left
  · intro w hSw; (try dsimp only at hSw); go_simp <;> (try with_reducible rfl)
  (try simp only [Act.put, List.setIfInBounds_toArray, List.set_cons_zero, List.set_cons_succ, List.getElem_toArray, List.getElem_cons_succ, List.getElem_cons_zero])
  refine wpAnyH_take (i := 4) (v := ?_) rfl (by kernel_rfl) (by kernel_rfl) (by kernel_rfl) (fun _ _ _ h => h) (Or.inl ⟨by kernel_rfl, ?_⟩) (by assumption) ?_
  rotate_left
  · intro w hSw; (try dsimp only at hSw); go_simp <;> (try with_reducible rfl)
  (try simp only [Act.put, List.setIfInBounds_toArray, List.set_cons_zero, List.set_cons_succ, List.getElem_toArray, List.getElem_cons_succ, List.getElem_cons_zero])
  refine wpAnyH_take (i := 6) (v := ?_) rfl (by kernel_rfl) (by kernel_rfl) (by kernel_rfl) (fun _ _ _ h => h) (Or.inl ⟨by kernel_rfl, ?_⟩) (by assumption) ?_
  rotate_left
  · intro w hSw; (try dsimp only at hSw); go_simp <;> (try with_reducible rfl)
  (try simp only [Act.put, List.setIfInBounds_toArray, List.set_cons_zero, List.set_cons_succ, List.getElem_toArray, List.getElem_cons_succ, List.getElem_cons_zero])
  refine wpAnyH_take (i := 8) (v := ?_) rfl (by kernel_rfl) (by kernel_rfl) (by kernel_rfl) (fun _ _ _ h => h) (Or.inl ⟨by kernel_rfl, ?_⟩) (by assumption) ?_
  rotate_left
  · intro w hSw; (try dsimp only at hSw); go_simp <;> (try with_reducible rfl)
  (try simp only [Act.put, List.setIfInBounds_toArray, List.set_cons_zero, List.set_cons_succ, List.getElem_toArray, List.getElem_cons_succ, List.getElem_cons_zero])
  refine wpAnyH_ready (rs := [5]) (by kernel_rfl) (by simp) ?_
  refine AllReadyH.cons rfl (fun K hK => ?_) AllReadyH.nil
  go_simp
  (go_at_call 45; have _t := tok0; clear _t tok0; ((with_reducible refine Calls.mono (li_mul (k := 14) (l := 14) (X := q) (Y := X1) (IsInt.lim (k := 14) (Z := q) (by repeat (with_reducible first | assumption | (refine Hid.out ?_; assumption) | apply LimI.drew_ | apply IsInt.drew_ | refine LimI.alloc_ ?_ _ | refine IsInt.alloc_ ?_ _ | (apply LimI.below; rotate_left; assumption) | (apply IsInt.below; rotate_left; assumption))) HQ.out) (by repeat (with_reducible first | assumption | (refine Hid.out ?_; assumption) | apply LimI.drew_ | apply IsInt.drew_ | refine LimI.alloc_ ?_ _ | refine IsInt.alloc_ ?_ _ | (apply LimI.below; rotate_left; assumption) | (apply IsInt.below; rotate_left; assumption))) (by omega) (by omega)) ?_)); rintro e w13 ⟨v13, rfl, h13, hb13⟩; have hz13 : w12.heap.size ≤ w13.heap.size := (by have hz := hb13.size; (try simp at hz); omega); have k13_a0 := Blk.below (g := w.heap.size) (t := 41) (cs := #[.bool b0, .slice A0 n0 c0]) (by repeat (first | (with_reducible first | assumption | (refine Hid.out ?_; assumption) | apply Blk.drew_) | ((with_reducible refine Blk.new _ _ ?_ _ _) <;> (first | rfl | (simp; done))) | (with_reducible first | refine Blk.alloc_ ?_ _ | apply Blk.own2 | refine Blk.other2 ?_ (by omega) | (apply Blk.below; rotate_left; assumption)))) hb13; have p13_a0 := k13_a0.cell0; have d13_a0 : w.heap.size < w13.heap.size := k13_a0.lt; have q13_a0 := k13_a0.cell1; have K13_a0 := Lib.hid k13_a0; clear k13_a0; have k13_a1 := Blk.below (g := w.heap.size + 1) (t := 41) (cs := #[.bool b1, .slice A1 n1 c1]) (by repeat (first | (with_reducible first | assumption | (refine Hid.out ?_; assumption) | apply Blk.drew_) | ((with_reducible refine Blk.new _ _ ?_ _ _) <;> (first | rfl | (simp; done))) | (with_reducible first | refine Blk.alloc_ ?_ _ | apply Blk.own2 | refine Blk.other2 ?_ (by omega) | (apply Blk.below; rotate_left; assumption)))) hb13; have p13_a1 := k13_a1.cell0; have d13_a1 : w.heap.size + 1 < w13.heap.size := k13_a1.lt; have q13_a1 := k13_a1.cell1; have K13_a1 := Lib.hid k13_a1; clear k13_a1; have k13_q := Blk.below (g := w8.heap.size) (t := 41) (cs := #[.bool bhq8, .slice Ahq8 nhq8 chq8]) (by repeat (first | (with_reducible first | assumption | (refine Hid.out ?_; assumption) | apply Blk.drew_) | ((with_reducible refine Blk.new _ _ ?_ _ _) <;> (first | rfl | (simp; done))) | (with_reducible first | refine Blk.alloc_ ?_ _ | apply Blk.own2 | refine Blk.other2 ?_ (by omega) | (apply Blk.below; rotate_left; assumption)))) hb13; have p13_q := k13_q.cell0; have d13_q : w8.heap.size < w13.heap.size := k13_q.lt; have q13_q := k13_q.cell1; have K13_q := Lib.hid k13_q; clear k13_q; have k13_r := Blk.below (g := w8.heap.size + 1) (t := 41) (cs := #[.bool bhr8, .slice Ahr8 nhr8 chr8]) (by repeat (first | (with_reducible first | assumption | (refine Hid.out ?_; assumption) | apply Blk.drew_) | ((with_reducible refine Blk.new _ _ ?_ _ _) <;> (first | rfl | (simp; done))) | (with_reducible first | refine Blk.alloc_ ?_ _ | apply Blk.own2 | refine Blk.other2 ?_ (by omega) | (apply Blk.below; rotate_left; assumption)))) hb13; have p13_r := k13_r.cell0; have d13_r : w8.heap.size + 1 < w13.heap.size := k13_r.lt; have q13_r := k13_r.cell1; have K13_r := Lib.hid k13_r; clear k13_r; have f0_13 := Lib.hid (show LimI 14 w13 (.agg #[.bool b0, .slice A0 n0 c0]) X0 from (by repeat (with_reducible first | assumption | (refine Hid.out ?_; assumption) | apply LimI.drew_ | apply IsInt.drew_ | refine LimI.alloc_ ?_ _ | refine IsInt.alloc_ ?_ _ | (apply LimI.below; rotate_left; assumption) | (apply IsInt.below; rotate_left; assumption)))); have f1_13 := Lib.hid (show LimI 14 w13 (.agg #[.bool b1, .slice A1 n1 c1]) X1 from (by repeat (with_reducible first | assumption | (refine Hid.out ?_; assumption) | apply LimI.drew_ | apply IsInt.drew_ | refine LimI.alloc_ ?_ _ | refine IsInt.alloc_ ?_ _ | (apply LimI.below; rotate_left; assumption) | (apply IsInt.below; rotate_left; assumption)))); have q_13 := Lib.hid (show IsInt w13 (.agg #[.bool bhq8, .slice Ahq8 nhq8 chq8]) q from (by repeat (with_reducible first | assumption | (refine Hid.out ?_; assumption) | apply LimI.drew_ | apply IsInt.drew_ | refine LimI.alloc_ ?_ _ | refine IsInt.alloc_ ?_ _ | (apply LimI.below; rotate_left; assumption) | (apply IsInt.below; rotate_left; assumption)))); have r_13 := Lib.hid (show IsInt w13 (.agg #[.bool bhr8, .slice Ahr8 nhr8 chr8]) 0 from (by repeat (with_reducible first | assumption | (refine Hid.out ?_; assumption) | apply LimI.drew_ | apply IsInt.drew_ | refine LimI.alloc_ ?_ _ | refine IsInt.alloc_ ?_ _ | (apply LimI.below; rotate_left; assumption) | (apply IsInt.below; rotate_left; assumption)))); have u_13 := Lib.hid (show IsInt w13 v13 (q * X1) from h13); have HB13 := Lib.hid (show Below w.heap.size w w13 from (by repeat first | exact Below.refl _ _ | exact HB12.out | (with_reducible refine Below.trans ?_ (Below.mono (by with_reducible assumption) ?_)) | (with_reducible refine Below.alloc_ ?_ ?_ _) | (with_reducible refine Below.drew ?_) | (with_reducible refine Below.set2 ?_ ?_) | exact Nat.le_refl _ | omega | focus (simp <;> omega))); have hs13 : w.heap.size ≤ w13.heap.size := HB13.out.size; clear K12_a0 K12_a1 K12_q K12_r f0_12 f1_12 q_12 r_12 HB12 hb13)
  refine hK.out _ _ ?_ (fun hHeld => ?_)
  · (try dsimp only); (refine ⟨?_, ?_, ?_, ?_, ?_, ?_, ?_, ?_⟩ <;> first | with_reducible assumption | ((with_reducible refine Eq.trans (cell_drew _ _) ?_); with_reducible assumption) | ((repeat rw [cell_far2 _ _ _ _ _ _ (by omega)]); with_reducible assumption) | go_keep)
  clear hK K
  (try simp only [Act.put, List.setIfInBounds_toArray, List.set_cons_zero, List.set_cons_succ, List.getElem_toArray, List.getElem_cons_succ, List.getElem_cons_zero])
  refine wpAnyH_ready (rs := [7]) (by kernel_rfl) (by simp) ?_
  refine AllReadyH.cons rfl (fun K hK => ?_) AllReadyH.nil
  go_simp
  (go_at_call 41; have _t := tok1; clear _t tok1; ((with_reducible refine Calls.mono (li_add (k := 28) (l := 14) (X := q * X1) (Y := 0) (IsInt.lim (k := 28) (Z := q * X1) (by repeat (with_reducible first | assumption | (refine Hid.out ?_; assumption) | apply LimI.drew_ | apply IsInt.drew_ | refine LimI.alloc_ ?_ _ | refine IsInt.alloc_ ?_ _ | (apply LimI.below; rotate_left; assumption) | (apply IsInt.below; rotate_left; assumption))) HQM.out) (IsInt.lim (k := 14) (Z := 0) (by repeat (with_reducible first | assumption | (refine Hid.out ?_; assumption) | apply LimI.drew_ | apply IsInt.drew_ | refine LimI.alloc_ ?_ _ | refine IsInt.alloc_ ?_ _ | (apply LimI.below; rotate_left; assumption) | (apply IsInt.below; rotate_left; assumption))) HR.out) (by omega) (by omega)) ?_)); rintro e w14 ⟨v14, rfl, h14, hb14⟩; rw [HE.out] at h14; have hz14 : w13.heap.size ≤ w14.heap.size := (by have hz := hb14.size; (try simp at hz); omega); have k14_a0 := Blk.below (g := w.heap.size) (t := 41) (cs := #[.bool b0, .slice A0 n0 c0]) (by repeat (first | (with_reducible first | assumption | (refine Hid.out ?_; assumption) | apply Blk.drew_) | ((with_reducible refine Blk.new _ _ ?_ _ _) <;> (first | rfl | (simp; done))) | (with_reducible first | refine Blk.alloc_ ?_ _ | apply Blk.own2 | refine Blk.other2 ?_ (by omega) | (apply Blk.below; rotate_left; assumption)))) hb14; have p14_a0 := k14_a0.cell0; have d14_a0 : w.heap.size < w14.heap.size := k14_a0.lt; have q14_a0 := k14_a0.cell1; have K14_a0 := Lib.hid k14_a0; clear k14_a0; have k14_a1 := Blk.below (g := w.heap.size + 1) (t := 41) (cs := #[.bool b1, .slice A1 n1 c1]) (by repeat (first | (with_reducible first | assumption | (refine Hid.out ?_; assumption) | apply Blk.drew_) | ((with_reducible refine Blk.new _ _ ?_ _ _) <;> (first | rfl | (simp; done))) | (with_reducible first | refine Blk.alloc_ ?_ _ | apply Blk.own2 | refine Blk.other2 ?_ (by omega) | (apply Blk.below; rotate_left; assumption)))) hb14; have p14_a1 := k14_a1.cell0; have d14_a1 : w.heap.size + 1 < w14.heap.size := k14_a1.lt; have q14_a1 := k14_a1.cell1; have K14_a1 := Lib.hid k14_a1; clear k14_a1; have k14_q := Blk.below (g := w8.heap.size) (t := 41) (cs := #[.bool bhq8, .slice Ahq8 nhq8 chq8]) (by repeat (first | (with_reducible first | assumption | (refine Hid.out ?_; assumption) | apply Blk.drew_) | ((with_reducible refine Blk.new _ _ ?_ _ _) <;> (first | rfl | (simp; done))) | (with_reducible first | refine Blk.alloc_ ?_ _ | apply Blk.own2 | refine Blk.other2 ?_ (by omega) | (apply Blk.below; rotate_left; assumption)))) hb14; have p14_q := k14_q.cell0; have d14_q : w8.heap.size < w14.heap.size := k14_q.lt; have q14_q := k14_q.cell1; have K14_q := Lib.hid k14_q; clear k14_q; have k14_r := Blk.below (g := w8.heap.size + 1) (t := 41) (cs := #[.bool bhr8, .slice Ahr8 nhr8 chr8]) (by repeat (first | (with_reducible first | assumption | (refine Hid.out ?_; assumption) | apply Blk.drew_) | ((with_reducible refine Blk.new _ _ ?_ _ _) <;> (first | rfl | (simp; done))) | (with_reducible first | refine Blk.alloc_ ?_ _ | apply Blk.own2 | refine Blk.other2 ?_ (by omega) | (apply Blk.below; rotate_left; assumption)))) hb14; have p14_r := k14_r.cell0; have d14_r : w8.heap.size + 1 < w14.heap.size := k14_r.lt; have q14_r := k14_r.cell1; have K14_r := Lib.hid k14_r; clear k14_r; have f0_14 := Lib.hid (show LimI 14 w14 (.agg #[.bool b0, .slice A0 n0 c0]) X0 from (by repeat (with_reducible first | assumption | (refine Hid.out ?_; assumption) | apply LimI.drew_ | apply IsInt.drew_ | refine LimI.alloc_ ?_ _ | refine IsInt.alloc_ ?_ _ | (apply LimI.below; rotate_left; assumption) | (apply IsInt.below; rotate_left; assumption)))); have f1_14 := Lib.hid (show LimI 14 w14 (.agg #[.bool b1, .slice A1 n1 c1]) X1 from (by repeat (with_reducible first | assumption | (refine Hid.out ?_; assumption) | apply LimI.drew_ | apply IsInt.drew_ | refine LimI.alloc_ ?_ _ | refine IsInt.alloc_ ?_ _ | (apply LimI.below; rotate_left; assumption) | (apply IsInt.below; rotate_left; assumption)))); have q_14 := Lib.hid (show IsInt w14 (.agg #[.bool bhq8, .slice Ahq8 nhq8 chq8]) q from (by repeat (with_reducible first | assumption | (refine Hid.out ?_; assumption) | apply LimI.drew_ | apply IsInt.drew_ | refine LimI.alloc_ ?_ _ | refine IsInt.alloc_ ?_ _ | (apply LimI.below; rotate_left; assumption) | (apply IsInt.below; rotate_left; assumption)))); have r_14 := Lib.hid (show IsInt w14 (.agg #[.bool bhr8, .slice Ahr8 nhr8 chr8]) 0 from (by repeat (with_reducible first | assumption | (refine Hid.out ?_; assumption) | apply LimI.drew_ | apply IsInt.drew_ | refine LimI.alloc_ ?_ _ | refine IsInt.alloc_ ?_ _ | (apply LimI.below; rotate_left; assumption) | (apply IsInt.below; rotate_left; assumption)))); have s_14 := Lib.hid (show IsInt w14 v14 X0 from h14); have HB14 := Lib.hid (show Below w.heap.size w w14 from (by repeat first | exact Below.refl _ _ | exact HB13.out | (with_reducible refine Below.trans ?_ (Below.mono (by with_reducible assumption) ?_)) | (with_reducible refine Below.alloc_ ?_ ?_ _) | (with_reducible refine Below.drew ?_) | (with_reducible refine Below.set2 ?_ ?_) | exact Nat.le_refl _ | omega | focus (simp <;> omega))); have hs14 : w.heap.size ≤ w14.heap.size := HB14.out.size; clear K13_a0 K13_a1 K13_q K13_r f0_13 f1_13 q_13 r_13 u_13 HB13 hb14)
  refine hK.out _ _ ?_ (fun hHeld => ?_)
  · (try dsimp only); (refine ⟨?_, ?_, ?_, ?_, ?_, ?_, ?_, ?_⟩ <;> first | with_reducible assumption | ((with_reducible refine Eq.trans (cell_drew _ _) ?_); with_reducible assumption) | ((repeat rw [cell_far2 _ _ _ _ _ _ (by omega)]); with_reducible assumption) | go_keep)
  clear hK K
  (try simp only [Act.put, List.setIfInBounds_toArray, List.set_cons_zero, List.set_cons_succ, List.getElem_toArray, List.getElem_cons_succ, List.getElem_cons_zero])
  refine wpAnyH_ready (rs := [9]) (by kernel_rfl) (by simp) ?_
  refine AllReadyH.cons rfl (fun K hK => ?_) AllReadyH.nil
  go_simp
  (go_at_call 38; have _t := tok2; clear _t tok2; ((with_reducible refine Calls.mono (li_rplain (k := 14) (X := X0) (by repeat (with_reducible first | assumption | (refine Hid.out ?_; assumption) | apply LimI.drew_ | apply IsInt.drew_ | refine LimI.alloc_ ?_ _ | refine IsInt.alloc_ ?_ _ | (apply LimI.below; rotate_left; assumption) | (apply IsInt.below; rotate_left; assumption))) (by omega)) ?_)); rintro e w15 ⟨v15, rfl, h15, hb15⟩; have hz15 : w14.heap.size ≤ w15.heap.size := (by have hz := hb15.size; (try simp at hz); omega); have k15_a0 := Blk.below (g := w.heap.size) (t := 41) (cs := #[.bool b0, .slice A0 n0 c0]) (by repeat (first | (with_reducible first | assumption | (refine Hid.out ?_; assumption) | apply Blk.drew_) | ((with_reducible refine Blk.new _ _ ?_ _ _) <;> (first | rfl | (simp; done))) | (with_reducible first | refine Blk.alloc_ ?_ _ | apply Blk.own2 | refine Blk.other2 ?_ (by omega) | (apply Blk.below; rotate_left; assumption)))) hb15; have p15_a0 := k15_a0.cell0; have d15_a0 : w.heap.size < w15.heap.size := k15_a0.lt; have q15_a0 := k15_a0.cell1; have K15_a0 := Lib.hid k15_a0; clear k15_a0; have k15_a1 := Blk.below (g := w.heap.size + 1) (t := 41) (cs := #[.bool b1, .slice A1 n1 c1]) (by repeat (first | (with_reducible first | assumption | (refine Hid.out ?_; assumption) | apply Blk.drew_) | ((with_reducible refine Blk.new _ _ ?_ _ _) <;> (first | rfl | (simp; done))) | (with_reducible first | refine Blk.alloc_ ?_ _ | apply Blk.own2 | refine Blk.other2 ?_ (by omega) | (apply Blk.below; rotate_left; assumption)))) hb15; have p15_a1 := k15_a1.cell0; have d15_a1 : w.heap.size + 1 < w15.heap.size := k15_a1.lt; have q15_a1 := k15_a1.cell1; have K15_a1 := Lib.hid k15_a1; clear k15_a1; have k15_q := Blk.below (g := w8.heap.size) (t := 41) (cs := #[.bool bhq8, .slice Ahq8 nhq8 chq8]) (by repeat (first | (with_reducible first | assumption | (refine Hid.out ?_; assumption) | apply Blk.drew_) | ((with_reducible refine Blk.new _ _ ?_ _ _) <;> (first | rfl | (simp; done))) | (with_reducible first | refine Blk.alloc_ ?_ _ | apply Blk.own2 | refine Blk.other2 ?_ (by omega) | (apply Blk.below; rotate_left; assumption)))) hb15; have p15_q := k15_q.cell0; have d15_q : w8.heap.size < w15.heap.size := k15_q.lt; have q15_q := k15_q.cell1; have K15_q := Lib.hid k15_q; clear k15_q; have k15_r := Blk.below (g := w8.heap.size + 1) (t := 41) (cs := #[.bool bhr8, .slice Ahr8 nhr8 chr8]) (by repeat (first | (with_reducible first | assumption | (refine Hid.out ?_; assumption) | apply Blk.drew_) | ((with_reducible refine Blk.new _ _ ?_ _ _) <;> (first | rfl | (simp; done))) | (with_reducible first | refine Blk.alloc_ ?_ _ | apply Blk.own2 | refine Blk.other2 ?_ (by omega) | (apply Blk.below; rotate_left; assumption)))) hb15; have p15_r := k15_r.cell0; have d15_r : w8.heap.size + 1 < w15.heap.size := k15_r.lt; have q15_r := k15_r.cell1; have K15_r := Lib.hid k15_r; clear k15_r; have f0_15 := Lib.hid (show LimI 14 w15 (.agg #[.bool b0, .slice A0 n0 c0]) X0 from (by repeat (with_reducible first | assumption | (refine Hid.out ?_; assumption) | apply LimI.drew_ | apply IsInt.drew_ | refine LimI.alloc_ ?_ _ | refine IsInt.alloc_ ?_ _ | (apply LimI.below; rotate_left; assumption) | (apply IsInt.below; rotate_left; assumption)))); have f1_15 := Lib.hid (show LimI 14 w15 (.agg #[.bool b1, .slice A1 n1 c1]) X1 from (by repeat (with_reducible first | assumption | (refine Hid.out ?_; assumption) | apply LimI.drew_ | apply IsInt.drew_ | refine LimI.alloc_ ?_ _ | refine IsInt.alloc_ ?_ _ | (apply LimI.below; rotate_left; assumption) | (apply IsInt.below; rotate_left; assumption)))); have q_15 := Lib.hid (show IsInt w15 (.agg #[.bool bhq8, .slice Ahq8 nhq8 chq8]) q from (by repeat (with_reducible first | assumption | (refine Hid.out ?_; assumption) | apply LimI.drew_ | apply IsInt.drew_ | refine LimI.alloc_ ?_ _ | refine IsInt.alloc_ ?_ _ | (apply LimI.below; rotate_left; assumption) | (apply IsInt.below; rotate_left; assumption)))); have r_15 := Lib.hid (show IsInt w15 (.agg #[.bool bhr8, .slice Ahr8 nhr8 chr8]) 0 from (by repeat (with_reducible first | assumption | (refine Hid.out ?_; assumption) | apply LimI.drew_ | apply IsInt.drew_ | refine LimI.alloc_ ?_ _ | refine IsInt.alloc_ ?_ _ | (apply LimI.below; rotate_left; assumption) | (apply IsInt.below; rotate_left; assumption)))); have s_15 := Lib.hid (show IsInt w15 v14 X0 from (by repeat (with_reducible first | assumption | (refine Hid.out ?_; assumption) | apply LimI.drew_ | apply IsInt.drew_ | refine LimI.alloc_ ?_ _ | refine IsInt.alloc_ ?_ _ | (apply LimI.below; rotate_left; assumption) | (apply IsInt.below; rotate_left; assumption)))); have v_15 := Lib.hid (show IsInt w15 v15 X0 from h15); have HB15 := Lib.hid (show Below w.heap.size w w15 from (by repeat first | exact Below.refl _ _ | exact HB14.out | (with_reducible refine Below.trans ?_ (Below.mono (by with_reducible assumption) ?_)) | (with_reducible refine Below.alloc_ ?_ ?_ _) | (with_reducible refine Below.drew ?_) | (with_reducible refine Below.set2 ?_ ?_) | exact Nat.le_refl _ | omega | focus (simp <;> omega))); have hs15 : w.heap.size ≤ w15.heap.size := HB15.out.size; clear K14_a0 K14_a1 K14_q K14_r f0_14 f1_14 q_14 r_14 s_14 HB14 hb15)
  refine hK.out _ _ ?_ (fun hHeld => ?_)
  · (try dsimp only); (refine ⟨?_, ?_, ?_, ?_, ?_, ?_, ?_, ?_⟩ <;> first | with_reducible assumption | ((with_reducible refine Eq.trans (cell_drew _ _) ?_); with_reducible assumption) | ((repeat rw [cell_far2 _ _ _ _ _ _ (by omega)]); with_reducible assumption) | go_keep)
  clear hK K
  (try simp only [Act.put, List.setIfInBounds_toArray, List.set_cons_zero, List.set_cons_succ, List.getElem_toArray, List.getElem_cons_succ, List.getElem_cons_zero])
  refine wpAnyH_ready (rs := [10]) (by kernel_rfl) (by simp) ?_
  refine AllReadyH.cons rfl (fun K hK => ?_) AllReadyH.nil
  go_simp
  (go_at_call 36; have _t := tok3; clear _t tok3; ((with_reducible refine Calls.mono (isInt_same (k := 14) (X := X0) (by repeat (with_reducible first | assumption | (refine Hid.out ?_; assumption) | apply LimI.drew_ | apply IsInt.drew_ | refine LimI.alloc_ ?_ _ | refine IsInt.alloc_ ?_ _ | (apply LimI.below; rotate_left; assumption) | (apply IsInt.below; rotate_left; assumption))) (by repeat (with_reducible first | assumption | (refine Hid.out ?_; assumption) | apply LimI.drew_ | apply IsInt.drew_ | refine LimI.alloc_ ?_ _ | refine IsInt.alloc_ ?_ _ | (apply LimI.below; rotate_left; assumption) | (apply IsInt.below; rotate_left; assumption))) HX0.out (by omega)) ?_)); rintro e w16 ⟨rfl, hb16⟩; have hz16 : w15.heap.size ≤ w16.heap.size := (by have hz := hb16.size; (try simp at hz); omega); have k16_a0 := Blk.below (g := w.heap.size) (t := 41) (cs := #[.bool b0, .slice A0 n0 c0]) (by repeat (first | (with_reducible first | assumption | (refine Hid.out ?_; assumption) | apply Blk.drew_) | ((with_reducible refine Blk.new _ _ ?_ _ _) <;> (first | rfl | (simp; done))) | (with_reducible first | refine Blk.alloc_ ?_ _ | apply Blk.own2 | refine Blk.other2 ?_ (by omega) | (apply Blk.below; rotate_left; assumption)))) hb16; have p16_a0 := k16_a0.cell0; have d16_a0 : w.heap.size < w16.heap.size := k16_a0.lt; have q16_a0 := k16_a0.cell1; have K16_a0 := Lib.hid k16_a0; clear k16_a0; have k16_a1 := Blk.below (g := w.heap.size + 1) (t := 41) (cs := #[.bool b1, .slice A1 n1 c1]) (by repeat (first | (with_reducible first | assumption | (refine Hid.out ?_; assumption) | apply Blk.drew_) | ((with_reducible refine Blk.new _ _ ?_ _ _) <;> (first | rfl | (simp; done))) | (with_reducible first | refine Blk.alloc_ ?_ _ | apply Blk.own2 | refine Blk.other2 ?_ (by omega) | (apply Blk.below; rotate_left; assumption)))) hb16; have p16_a1 := k16_a1.cell0; have d16_a1 : w.heap.size + 1 < w16.heap.size := k16_a1.lt; have q16_a1 := k16_a1.cell1; have K16_a1 := Lib.hid k16_a1; clear k16_a1; have k16_q := Blk.below (g := w8.heap.size) (t := 41) (cs := #[.bool bhq8, .slice Ahq8 nhq8 chq8]) (by repeat (first | (with_reducible first | assumption | (refine Hid.out ?_; assumption) | apply Blk.drew_) | ((with_reducible refine Blk.new _ _ ?_ _ _) <;> (first | rfl | (simp; done))) | (with_reducible first | refine Blk.alloc_ ?_ _ | apply Blk.own2 | refine Blk.other2 ?_ (by omega) | (apply Blk.below; rotate_left; assumption)))) hb16; have p16_q := k16_q.cell0; have d16_q : w8.heap.size < w16.heap.size := k16_q.lt; have q16_q := k16_q.cell1; have K16_q := Lib.hid k16_q; clear k16_q; have k16_r := Blk.below (g := w8.heap.size + 1) (t := 41) (cs := #[.bool bhr8, .slice Ahr8 nhr8 chr8]) (by repeat (first | (with_reducible first | assumption | (refine Hid.out ?_; assumption) | apply Blk.drew_) | ((with_reducible refine Blk.new _ _ ?_ _ _) <;> (first | rfl | (simp; done))) | (with_reducible first | refine Blk.alloc_ ?_ _ | apply Blk.own2 | refine Blk.other2 ?_ (by omega) | (apply Blk.below; rotate_left; assumption)))) hb16; have p16_r := k16_r.cell0; have d16_r : w8.heap.size + 1 < w16.heap.size := k16_r.lt; have q16_r := k16_r.cell1; have K16_r := Lib.hid k16_r; clear k16_r; have f0_16 := Lib.hid (show LimI 14 w16 (.agg #[.bool b0, .slice A0 n0 c0]) X0 from (by repeat (with_reducible first | assumption | (refine Hid.out ?_; assumption) | apply LimI.drew_ | apply IsInt.drew_ | refine LimI.alloc_ ?_ _ | refine IsInt.alloc_ ?_ _ | (apply LimI.below; rotate_left; assumption) | (apply IsInt.below; rotate_left; assumption)))); have f1_16 := Lib.hid (show LimI 14 w16 (.agg #[.bool b1, .slice A1 n1 c1]) X1 from (by repeat (with_reducible first | assumption | (refine Hid.out ?_; assumption) | apply LimI.drew_ | apply IsInt.drew_ | refine LimI.alloc_ ?_ _ | refine IsInt.alloc_ ?_ _ | (apply LimI.below; rotate_left; assumption) | (apply IsInt.below; rotate_left; assumption)))); have q_16 := Lib.hid (show IsInt w16 (.agg #[.bool bhq8, .slice Ahq8 nhq8 chq8]) q from (by repeat (with_reducible first | assumption | (refine Hid.out ?_; assumption) | apply LimI.drew_ | apply IsInt.drew_ | refine LimI.alloc_ ?_ _ | refine IsInt.alloc_ ?_ _ | (apply LimI.below; rotate_left; assumption) | (apply IsInt.below; rotate_left; assumption)))); have r_16 := Lib.hid (show IsInt w16 (.agg #[.bool bhr8, .slice Ahr8 nhr8 chr8]) 0 from (by repeat (with_reducible first | assumption | (refine Hid.out ?_; assumption) | apply LimI.drew_ | apply IsInt.drew_ | refine LimI.alloc_ ?_ _ | refine IsInt.alloc_ ?_ _ | (apply LimI.below; rotate_left; assumption) | (apply IsInt.below; rotate_left; assumption)))); have s_16 := Lib.hid (show IsInt w16 v14 X0 from (by repeat (with_reducible first | assumption | (refine Hid.out ?_; assumption) | apply LimI.drew_ | apply IsInt.drew_ | refine LimI.alloc_ ?_ _ | refine IsInt.alloc_ ?_ _ | (apply LimI.below; rotate_left; assumption) | (apply IsInt.below; rotate_left; assumption)))); have v_16 := Lib.hid (show IsInt w16 v15 X0 from (by repeat (with_reducible first | assumption | (refine Hid.out ?_; assumption) | apply LimI.drew_ | apply IsInt.drew_ | refine LimI.alloc_ ?_ _ | refine IsInt.alloc_ ?_ _ | (apply LimI.below; rotate_left; assumption) | (apply IsInt.below; rotate_left; assumption)))); have HB16 := Lib.hid (show Below w.heap.size w w16 from (by repeat first | exact Below.refl _ _ | exact HB15.out | (with_reducible refine Below.trans ?_ (Below.mono (by with_reducible assumption) ?_)) | (with_reducible refine Below.alloc_ ?_ ?_ _) | (with_reducible refine Below.drew ?_) | (with_reducible refine Below.set2 ?_ ?_) | exact Nat.le_refl _ | omega | focus (simp <;> omega))); have hs16 : w.heap.size ≤ w16.heap.size := HB16.out.size; clear K15_a0 K15_a1 K15_q K15_r f0_15 f1_15 q_15 r_15 s_15 v_15 HB15 hb16)
  refine hK.out _ _ ?_ (fun hHeld => ?_)
  · (try dsimp only); (refine ⟨?_, ?_, ?_, ?_, ?_, ?_, ?_, ?_⟩ <;> first | with_reducible assumption | ((with_reducible refine Eq.trans (cell_drew _ _) ?_); with_reducible assumption) | ((repeat rw [cell_far2 _ _ _ _ _ _ (by omega)]); with_reducible assumption) | go_keep)
  clear hK K
  (try simp only [Act.put, List.setIfInBounds_toArray, List.set_cons_zero, List.set_cons_succ, List.getElem_toArray, List.getElem_cons_succ, List.getElem_cons_zero])
  refine wpAnyH_take (i := 11) (v := ?_) rfl (by kernel_rfl) (by kernel_rfl) (by kernel_rfl) (fun _ _ _ h => h) (Or.inl ⟨by kernel_rfl, ?_⟩) (by assumption) ?_
  rotate_left
  · intro w hSw; (try dsimp only at hSw); go_simp <;> (try with_reducible rfl)
  (try simp only [Act.put, List.setIfInBounds_toArray, List.set_cons_zero, List.set_cons_succ, List.getElem_toArray, List.getElem_cons_succ, List.getElem_cons_zero])
  refine wpAnyH_take (i := 12) (v := ?_) rfl (by kernel_rfl) (by kernel_rfl) (by kernel_rfl) (fun _ _ _ h => h) (Or.inl ⟨by kernel_rfl, ?_⟩) (by assumption) ?_
  rotate_left
  · intro w hSw; (try dsimp only at hSw); go_simp <;> (try with_reducible rfl)
  (try simp only [Act.put, List.setIfInBounds_toArray, List.set_cons_zero, List.set_cons_succ, List.getElem_toArray, List.getElem_cons_succ, List.getElem_cons_zero])
  refine wpAnyH_take (i := 13) (v := ?_) rfl (by kernel_rfl) (by kernel_rfl) (by kernel_rfl) (fun _ _ _ h => h) (Or.inl ⟨by kernel_rfl, ?_⟩) (by assumption) ?_
  rotate_left
  · intro w hSw; (try dsimp only at hSw); go_simp <;> (try with_reducible rfl)
  (try simp only [Act.put, List.setIfInBounds_toArray, List.set_cons_zero, List.set_cons_succ, List.getElem_toArray, List.getElem_cons_succ, List.getElem_cons_zero])
  refine wpAnyH_take (i := 14) (v := ?_) rfl (by kernel_rfl) (by kernel_rfl) (by kernel_rfl) (fun _ _ _ h => h) (Or.inl ⟨by kernel_rfl, ?_⟩) (by assumption) ?_
  rotate_left
  · intro w hSw; (try dsimp only at hSw); go_simp <;> (try with_reducible rfl)
  (try simp only [Act.put, List.setIfInBounds_toArray, List.set_cons_zero, List.set_cons_succ, List.getElem_toArray, List.getElem_cons_succ, List.getElem_cons_zero])
  refine wpAnyH_take (i := 15) (v := ?_) rfl (by kernel_rfl) (by kernel_rfl) (by kernel_rfl) (fun _ _ _ h => h) (Or.inl ⟨by kernel_rfl, ?_⟩) (by assumption) ?_
  rotate_left
  · intro w hSw; (try dsimp only at hSw); go_simp <;> (try with_reducible rfl)
  (try simp only [Act.put, List.setIfInBounds_toArray, List.set_cons_zero, List.set_cons_succ, List.getElem_toArray, List.getElem_cons_succ, List.getElem_cons_zero])
  refine wpAnyH_take (i := 16) (v := ?_) rfl (by kernel_rfl) (by kernel_rfl) (by kernel_rfl) (fun _ _ _ h => h) (Or.inl ⟨by kernel_rfl, ?_⟩) (by assumption) ?_
  rotate_left
  · intro w hSw; (try dsimp only at hSw); go_simp <;> (try with_reducible rfl)
  (try simp only [Act.put, List.setIfInBounds_toArray, List.set_cons_zero, List.set_cons_succ, List.getElem_toArray, List.getElem_cons_succ, List.getElem_cons_zero])
  refine wpAnyH_take (i := 17) (v := undef) rfl (by kernel_rfl) (by kernel_rfl) (by kernel_rfl) (fun _ _ _ h => h) (Or.inr ⟨by kernel_rfl, rfl⟩) (by assumption) ?_
  (try simp only [Act.put, List.setIfInBounds_toArray, List.set_cons_zero, List.set_cons_succ, List.getElem_toArray, List.getElem_cons_succ, List.getElem_cons_zero])
  refine wpAnyH_take (i := 18) (v := undef) rfl (by kernel_rfl) (by kernel_rfl) (by kernel_rfl) (fun _ _ _ h => h) (Or.inr ⟨by kernel_rfl, rfl⟩) (by assumption) ?_
  (try simp only [Act.put, List.setIfInBounds_toArray, List.set_cons_zero, List.set_cons_succ, List.getElem_toArray, List.getElem_cons_succ, List.getElem_cons_zero])
  refine wpAnyH_take (i := 19) (v := undef) rfl (by kernel_rfl) (by kernel_rfl) (by kernel_rfl) (fun _ _ _ h => h) (Or.inr ⟨by kernel_rfl, rfl⟩) (by assumption) ?_
  (try simp only [Act.put, List.setIfInBounds_toArray, List.set_cons_zero, List.set_cons_succ, List.getElem_toArray, List.getElem_cons_succ, List.getElem_cons_zero])
  refine wpAnyH_take (i := 20) (v := undef) rfl (by kernel_rfl) (by kernel_rfl) (by kernel_rfl) (fun _ _ _ h => h) (Or.inr ⟨by kernel_rfl, rfl⟩) (by assumption) ?_
  (try simp only [Act.put, List.setIfInBounds_toArray, List.set_cons_zero, List.set_cons_succ, List.getElem_toArray, List.getElem_cons_succ, List.getElem_cons_zero])
  refine wpAnyH_take (i := 21) (v := undef) rfl (by kernel_rfl) (by kernel_rfl) (by kernel_rfl) (fun _ _ _ h => h) (Or.inr ⟨by kernel_rfl, rfl⟩) (by assumption) ?_
  (try simp only [Act.put, List.setIfInBounds_toArray, List.set_cons_zero, List.set_cons_succ, List.getElem_toArray, List.getElem_cons_succ, List.getElem_cons_zero])
  refine wpAnyH_take (i := 22) (v := undef) rfl (by kernel_rfl) (by kernel_rfl) (by kernel_rfl) (fun _ _ _ h => h) (Or.inr ⟨by kernel_rfl, rfl⟩) (by assumption) ?_
  (try simp only [Act.put, List.setIfInBounds_toArray, List.set_cons_zero, List.set_cons_succ, List.getElem_toArray, List.getElem_cons_succ, List.getElem_cons_zero])
  refine wpAnyH_take (i := 23) (v := ?_) rfl (by kernel_rfl) (by kernel_rfl) (by kernel_rfl) (fun _ _ _ h => h) (Or.inl ⟨by kernel_rfl, ?_⟩) (by assumption) ?_
  rotate_left
  · intro w hSw; (try dsimp only at hSw); go_simp <;> (try with_reducible rfl)
  (try simp only [Act.put, List.setIfInBounds_toArray, List.set_cons_zero, List.set_cons_succ, List.getElem_toArray, List.getElem_cons_succ, List.getElem_cons_zero])
  refine wpAnyH_take (i := 24) (v := ?_) rfl (by kernel_rfl) (by kernel_rfl) (by kernel_rfl) (fun _ _ _ h => h) (Or.inl ⟨by kernel_rfl, ?_⟩) (by assumption) ?_
  rotate_left
  · intro w hSw; (try dsimp only at hSw); go_simp <;> (try with_reducible rfl)
  (try simp only [Act.put, List.setIfInBounds_toArray, List.set_cons_zero, List.set_cons_succ, List.getElem_toArray, List.getElem_cons_succ, List.getElem_cons_zero])
  refine wpAnyH_take (i := 25) (v := ?_) rfl (by kernel_rfl) (by kernel_rfl) (by kernel_rfl) (fun _ _ _ h => h) (Or.inl ⟨by kernel_rfl, ?_⟩) (by assumption) ?_
  rotate_left
  · intro w hSw; (try dsimp only at hSw); go_simp <;> (try with_reducible rfl)
  (try simp only [Act.put, List.setIfInBounds_toArray, List.set_cons_zero, List.set_cons_succ, List.getElem_toArray, List.getElem_cons_succ, List.getElem_cons_zero])
  refine wpAnyH_take (i := 26) (v := ?_) rfl (by kernel_rfl) (by kernel_rfl) (by kernel_rfl) (fun _ _ _ h => h) (Or.inl ⟨by kernel_rfl, ?_⟩) (by assumption) ?_
  rotate_left
  · intro w hSw; (try dsimp only at hSw); go_simp <;> (try with_reducible rfl)
  (try simp only [Act.put, List.setIfInBounds_toArray, List.set_cons_zero, List.set_cons_succ, List.getElem_toArray, List.getElem_cons_succ, List.getElem_cons_zero])
  refine wpAnyH_take (i := 27) (v := ?_) rfl (by kernel_rfl) (by kernel_rfl) (by kernel_rfl) (fun _ _ _ h => h) (Or.inl ⟨by kernel_rfl, ?_⟩) (by assumption) ?_
  rotate_left
  · intro w hSw; (try dsimp only at hSw); go_simp <;> (try with_reducible rfl)
  (try simp only [Act.put, List.setIfInBounds_toArray, List.set_cons_zero, List.set_cons_succ, List.getElem_toArray, List.getElem_cons_succ, List.getElem_cons_zero])
  refine wpAnyH_take (i := 28) (v := ?_) rfl (by kernel_rfl) (by kernel_rfl) (by kernel_rfl) (fun _ _ _ h => h) (Or.inl ⟨by kernel_rfl, ?_⟩) (by assumption) ?_
  rotate_left
  · intro w hSw; (try dsimp only at hSw); go_simp <;> (try with_reducible rfl)
  (try simp only [Act.put, List.setIfInBounds_toArray, List.set_cons_zero, List.set_cons_succ, List.getElem_toArray, List.getElem_cons_succ, List.getElem_cons_zero])
  refine wpAnyH_take (i := 29) (v := ?_) rfl (by kernel_rfl) (by kernel_rfl) (by kernel_rfl) (fun _ _ _ h => h) (Or.inl ⟨by kernel_rfl, ?_⟩) (by assumption) ?_
  rotate_left
  · intro w hSw; (try dsimp only at hSw); go_simp <;> (try with_reducible rfl)
  (try simp only [Act.put, List.setIfInBounds_toArray, List.set_cons_zero, List.set_cons_succ, List.getElem_toArray, List.getElem_cons_succ, List.getElem_cons_zero])
  refine wpAnyH_ready (rs := [30]) (by kernel_rfl) (by simp) ?_
  refine AllReadyH.cons rfl (fun K hK => ?_) AllReadyH.nil
  go_simp
  (go_at_call 52; have _t := tok4; clear _t tok4; ((with_reducible refine Calls.mono (rCmp_less (k := 14) (m := 14) (N := (0 : Int).natAbs) (M := X1.natAbs) HRL.out (IsNat.lim (k := 14) (IsInt.mag (b := bhr8) (by repeat (with_reducible first | assumption | (refine Hid.out ?_; assumption) | apply LimI.drew_ | apply IsInt.drew_ | refine LimI.alloc_ ?_ _ | refine IsInt.alloc_ ?_ _ | (apply LimI.below; rotate_left; assumption) | (apply IsInt.below; rotate_left; assumption)))) HR.out) (LimI.mag (b := b1) (by repeat (with_reducible first | assumption | (refine Hid.out ?_; assumption) | apply LimI.drew_ | apply IsInt.drew_ | refine LimI.alloc_ ?_ _ | refine IsInt.alloc_ ?_ _ | (apply LimI.below; rotate_left; assumption) | (apply IsInt.below; rotate_left; assumption)))) (by omega) (by omega)) ?_)); rintro e w17 ⟨rfl, hb17⟩; have hz17 : w16.heap.size ≤ w17.heap.size := (by have hz := hb17.size; (try simp at hz); omega); have k17_a0 := Blk.below (g := w.heap.size) (t := 41) (cs := #[.bool b0, .slice A0 n0 c0]) (by repeat (first | (with_reducible first | assumption | (refine Hid.out ?_; assumption) | apply Blk.drew_) | ((with_reducible refine Blk.new _ _ ?_ _ _) <;> (first | rfl | (simp; done))) | (with_reducible first | refine Blk.alloc_ ?_ _ | apply Blk.own2 | refine Blk.other2 ?_ (by omega) | (apply Blk.below; rotate_left; assumption)))) hb17; have p17_a0 := k17_a0.cell0; have d17_a0 : w.heap.size < w17.heap.size := k17_a0.lt; have q17_a0 := k17_a0.cell1; have K17_a0 := Lib.hid k17_a0; clear k17_a0; have k17_a1 := Blk.below (g := w.heap.size + 1) (t := 41) (cs := #[.bool b1, .slice A1 n1 c1]) (by repeat (first | (with_reducible first | assumption | (refine Hid.out ?_; assumption) | apply Blk.drew_) | ((with_reducible refine Blk.new _ _ ?_ _ _) <;> (first | rfl | (simp; done))) | (with_reducible first | refine Blk.alloc_ ?_ _ | apply Blk.own2 | refine Blk.other2 ?_ (by omega) | (apply Blk.below; rotate_left; assumption)))) hb17; have p17_a1 := k17_a1.cell0; have d17_a1 : w.heap.size + 1 < w17.heap.size := k17_a1.lt; have q17_a1 := k17_a1.cell1; have K17_a1 := Lib.hid k17_a1; clear k17_a1; have k17_q := Blk.below (g := w8.heap.size) (t := 41) (cs := #[.bool bhq8, .slice Ahq8 nhq8 chq8]) (by repeat (first | (with_reducible first | assumption | (refine Hid.out ?_; assumption) | apply Blk.drew_) | ((with_reducible refine Blk.new _ _ ?_ _ _) <;> (first | rfl | (simp; done))) | (with_reducible first | refine Blk.alloc_ ?_ _ | apply Blk.own2 | refine Blk.other2 ?_ (by omega) | (apply Blk.below; rotate_left; assumption)))) hb17; have p17_q := k17_q.cell0; have d17_q : w8.heap.size < w17.heap.size := k17_q.lt; have q17_q := k17_q.cell1; have K17_q := Lib.hid k17_q; clear k17_q; have k17_r := Blk.below (g := w8.heap.size + 1) (t := 41) (cs := #[.bool bhr8, .slice Ahr8 nhr8 chr8]) (by repeat (first | (with_reducible first | assumption | (refine Hid.out ?_; assumption) | apply Blk.drew_) | ((with_reducible refine Blk.new _ _ ?_ _ _) <;> (first | rfl | (simp; done))) | (with_reducible first | refine Blk.alloc_ ?_ _ | apply Blk.own2 | refine Blk.other2 ?_ (by omega) | (apply Blk.below; rotate_left; assumption)))) hb17; have p17_r := k17_r.cell0; have d17_r : w8.heap.size + 1 < w17.heap.size := k17_r.lt; have q17_r := k17_r.cell1; have K17_r := Lib.hid k17_r; clear k17_r; have f0_17 := Lib.hid (show LimI 14 w17 (.agg #[.bool b0, .slice A0 n0 c0]) X0 from (by repeat (with_reducible first | assumption | (refine Hid.out ?_; assumption) | apply LimI.drew_ | apply IsInt.drew_ | refine LimI.alloc_ ?_ _ | refine IsInt.alloc_ ?_ _ | (apply LimI.below; rotate_left; assumption) | (apply IsInt.below; rotate_left; assumption)))); have f1_17 := Lib.hid (show LimI 14 w17 (.agg #[.bool b1, .slice A1 n1 c1]) X1 from (by repeat (with_reducible first | assumption | (refine Hid.out ?_; assumption) | apply LimI.drew_ | apply IsInt.drew_ | refine LimI.alloc_ ?_ _ | refine IsInt.alloc_ ?_ _ | (apply LimI.below; rotate_left; assumption) | (apply IsInt.below; rotate_left; assumption)))); have q_17 := Lib.hid (show IsInt w17 (.agg #[.bool bhq8, .slice Ahq8 nhq8 chq8]) q from (by repeat (with_reducible first | assumption | (refine Hid.out ?_; assumption) | apply LimI.drew_ | apply IsInt.drew_ | refine LimI.alloc_ ?_ _ | refine IsInt.alloc_ ?_ _ | (apply LimI.below; rotate_left; assumption) | (apply IsInt.below; rotate_left; assumption)))); have r_17 := Lib.hid (show IsInt w17 (.agg #[.bool bhr8, .slice Ahr8 nhr8 chr8]) 0 from (by repeat (with_reducible first | assumption | (refine Hid.out ?_; assumption) | apply LimI.drew_ | apply IsInt.drew_ | refine LimI.alloc_ ?_ _ | refine IsInt.alloc_ ?_ _ | (apply LimI.below; rotate_left; assumption) | (apply IsInt.below; rotate_left; assumption)))); have HB17 := Lib.hid (show Below w.heap.size w w17 from (by repeat first | exact Below.refl _ _ | exact HB16.out | (with_reducible refine Below.trans ?_ (Below.mono (by with_reducible assumption) ?_)) | (with_reducible refine Below.alloc_ ?_ ?_ _) | (with_reducible refine Below.drew ?_) | (with_reducible refine Below.set2 ?_ ?_) | exact Nat.le_refl _ | omega | focus (simp <;> omega))); have hs17 : w.heap.size ≤ w17.heap.size := HB17.out.size; clear K16_a0 K16_a1 K16_q K16_r f0_16 f1_16 q_16 r_16 s_16 v_16 HB16 hb17)
  refine hK.out _ _ ?_ (fun hHeld => ?_)
  · (try dsimp only); (refine ⟨?_, ?_, ?_, ?_, ?_, ?_, ?_, ?_⟩ <;> first | with_reducible assumption | ((with_reducible refine Eq.trans (cell_drew _ _) ?_); with_reducible assumption) | ((repeat rw [cell_far2 _ _ _ _ _ _ (by omega)]); with_reducible assumption) | go_keep)
  clear hK K
  (try simp only [Act.put, List.setIfInBounds_toArray, List.set_cons_zero, List.set_cons_succ, List.getElem_toArray, List.getElem_cons_succ, List.getElem_cons_zero])
  refine wpAnyH_take (i := 31) (v := ?_) rfl (by kernel_rfl) (by kernel_rfl) (by kernel_rfl) (fun _ _ _ h => h) (Or.inl ⟨by kernel_rfl, ?_⟩) (by assumption) ?_
  rotate_left
  · intro w hSw; (try dsimp only at hSw); go_simp <;> (try with_reducible rfl)
  (try simp only [Act.put, List.setIfInBounds_toArray, List.set_cons_zero, List.set_cons_succ, List.getElem_toArray, List.getElem_cons_succ, List.getElem_cons_zero])
  refine wpAnyH_take (i := 32) (v := ?_) rfl (by kernel_rfl) (by kernel_rfl) (by kernel_rfl) (fun _ _ _ h => h) (Or.inl ⟨by kernel_rfl, ?_⟩) (by assumption) ?_
  rotate_left
  · intro w hSw; (try dsimp only at hSw); go_simp <;> (try with_reducible rfl)
  (try simp only [Act.put, List.setIfInBounds_toArray, List.set_cons_zero, List.set_cons_succ, List.getElem_toArray, List.getElem_cons_succ, List.getElem_cons_zero])
  refine wpAnyH_take (i := 33) (v := ?_) rfl (by kernel_rfl) (by kernel_rfl) (by kernel_rfl) (fun _ _ _ h => h) (Or.inl ⟨by kernel_rfl, ?_⟩) (by assumption) ?_
  rotate_left
  · intro w hSw; (try dsimp only at hSw); go_simp <;> (try with_reducible rfl)
  (try simp only [Act.put, List.setIfInBounds_toArray, List.set_cons_zero, List.set_cons_succ, List.getElem_toArray, List.getElem_cons_succ, List.getElem_cons_zero])
  refine wpAnyH_take (i := 34) (v := ?_) rfl (by kernel_rfl) (by kernel_rfl) (by kernel_rfl) (fun _ _ _ h => h) (Or.inl ⟨by kernel_rfl, ?_⟩) (by assumption) ?_
  rotate_left
  · intro w hSw; (try dsimp only at hSw); go_simp <;> (try with_reducible rfl)
  (try simp only [Act.put, List.setIfInBounds_toArray, List.set_cons_zero, List.set_cons_succ, List.getElem_toArray, List.getElem_cons_succ, List.getElem_cons_zero])
  refine wpAnyH_done (by kernel_rfl) ?_ _
  go_wp2
  go_ret
  exact ⟨(by first | (simp; done) | rfl), HB17.out⟩
set_option maxRecDepth 100000 in
set_option maxHeartbeats 8000000 in
theorem wholeSmall_rest (nn q r : Int) (b0 : Bool) (A0 : Option Addr) (n0 c0 : Nat) (b1 : Bool) (A1 : Option Addr) (n1 c1 : Nat) (X0 X1 : Int) (w : World) (hn0 : n0 ≤ 14) (h0 : LimI 14 w (.agg #[.bool b0, .slice A0 n0 c0]) X0) (hn1 : n1 ≤ 14) (h1 : LimI 14 w (.agg #[.bool b1, .slice A1 n1 c1]) X1) (hv1 : -9223372036854775808 ≤ nn) (hv2 : nn ≤ 9223372036854775807) (hq : q.natAbs ≤ X0.natAbs) (D1 : ∀ (k l : Nat) (w : World) (v v' : Value), LimI k w v X0 → LimI l w v' X1 → k ≤ 100000 → l ≤ 100000 → Calls Try.prog 34 #[v, v'] w fun e w' => DivAny w w' e true q r) (hF : FDiv X0 X1 q r) (hr0 : r ≠ 0) :
    Calls Try.prog 7 #[.int .i64 nn, .agg #[.bool b0, .slice A0 n0 c0], .agg #[.bool b1, .slice A1 n1 c1]] w fun e w' => e = .returned (.bool true) ∧ Below w.heap.size w w' := by
  have G0 : Hid (true = decide ((n0 : Int) ≤ 14)) := (decide_eq_true (by omega)).symm
  have HX0 := Lib.hid h0.lt
  have H0 := Lib.hid h0
  have G1 : Hid (true = decide ((n1 : Int) ≤ 14)) := (decide_eq_true (by omega)).symm
  have HX1 := Lib.hid h1.lt
  have H1 := Lib.hid h1
  have HV : Hid (-9223372036854775808 ≤ nn ∧ nn ≤ 9223372036854775807) := ⟨hv1, hv2⟩
  have HNN : Hid (nn.natAbs < 4294967296 ^ 2) := by show _ < _; omega
  have HQ : Hid (q.natAbs < 4294967296 ^ 14) := Nat.lt_of_le_of_lt hq HX0.out
  have HD1 := Lib.hid D1
  have HRL : Hid (r.natAbs < X1.natAbs) := by
    have := hF.2
    show _ < _
    omega
  have HR : Hid (r.natAbs < 4294967296 ^ 14) := Nat.lt_trans HRL.out HX1.out
  have HQM : Hid ((q * X1).natAbs < 4294967296 ^ 28) := i_mul HQ.out HX1.out 28 (by omega)
  have HE : Hid (q * X1 + r = X0) := hF.1
  obtain ⟨p, hp⟩ : ∃ p, decide (X1 < 0) = p := ⟨_, rfl⟩
  have hrp : decide (r < 0) = p := by
    rw [← hp]
    have := hF.2
    exact decide_eq_decide.2 (by omega)
  have HP := Lib.hid hp
  have HRP := Lib.hid hrp
  have HR0 := Lib.hid hr0
  have hfl := fun b A n c w => field_neg b A n c w
  clear hq D1 hv1 hv2 hF hp hrp hr0
  clear hn0 h0 hn1 h1
  go_enter Try.func7, Try.ntmps7
  go_wp2_with fail
  refine Calls.mono (awake2 _) ?_
  rintro e w1 ⟨rfl, hb1⟩
  have hz1 : w.heap.size + 1 + 1 ≤ w1.heap.size := (by have hz := hb1.size; (try simp at hz); omega)
  have k1_a0 := Blk.below (g := w.heap.size) (t := 41) (cs := #[.bool b0, .slice A0 n0 c0]) (by repeat (first | (with_reducible first | assumption | (refine Hid.out ?_; assumption) | apply Blk.drew_) | ((with_reducible refine Blk.new _ _ ?_ _ _) <;> (first | rfl | (simp; done))) | (with_reducible first | refine Blk.alloc_ ?_ _ | apply Blk.own2 | refine Blk.other2 ?_ (by omega) | (apply Blk.below; rotate_left; assumption)))) hb1
  have p1_a0 := k1_a0.cell0
  have d1_a0 : w.heap.size < w1.heap.size := k1_a0.lt
  have q1_a0 := k1_a0.cell1
  have K1_a0 := Lib.hid k1_a0; clear k1_a0
  have k1_a1 := Blk.below (g := w.heap.size + 1) (t := 41) (cs := #[.bool b1, .slice A1 n1 c1]) (by repeat (first | (with_reducible first | assumption | (refine Hid.out ?_; assumption) | apply Blk.drew_) | ((with_reducible refine Blk.new _ _ ?_ _ _) <;> (first | rfl | (simp; done))) | (with_reducible first | refine Blk.alloc_ ?_ _ | apply Blk.own2 | refine Blk.other2 ?_ (by omega) | (apply Blk.below; rotate_left; assumption)))) hb1
  have p1_a1 := k1_a1.cell0
  have d1_a1 : w.heap.size + 1 < w1.heap.size := k1_a1.lt
  have q1_a1 := k1_a1.cell1
  have K1_a1 := Lib.hid k1_a1; clear k1_a1
  have f0_1 := Lib.hid (show LimI 14 w1 (.agg #[.bool b0, .slice A0 n0 c0]) X0 from (by repeat (with_reducible first | assumption | (refine Hid.out ?_; assumption) | apply LimI.drew_ | apply IsInt.drew_ | refine LimI.alloc_ ?_ _ | refine IsInt.alloc_ ?_ _ | (apply LimI.below; rotate_left; assumption) | (apply IsInt.below; rotate_left; assumption))))
  have f1_1 := Lib.hid (show LimI 14 w1 (.agg #[.bool b1, .slice A1 n1 c1]) X1 from (by repeat (with_reducible first | assumption | (refine Hid.out ?_; assumption) | apply LimI.drew_ | apply IsInt.drew_ | refine LimI.alloc_ ?_ _ | refine IsInt.alloc_ ?_ _ | (apply LimI.below; rotate_left; assumption) | (apply IsInt.below; rotate_left; assumption))))
  have HB1 := Lib.hid (show Below w.heap.size w w1 from (by repeat first | exact Below.refl _ _ | (with_reducible refine Below.trans ?_ (Below.mono (by with_reducible assumption) ?_)) | (with_reducible refine Below.alloc_ ?_ ?_ _) | (with_reducible refine Below.drew ?_) | (with_reducible refine Below.set2 ?_ ?_) | exact Nat.le_refl _ | omega | focus (simp <;> omega)))
  have hs1 : w.heap.size ≤ w1.heap.size := HB1.out.size
  clear hb1
  go_wp2_with fail
  refine Calls.mono (few_any b0 A0 n0 c0 _ true G0.out) ?_
  rintro e w2 ⟨rfl, hb2⟩
  have hz2 : w1.heap.size ≤ w2.heap.size := (by have hz := hb2.size; (try simp at hz); omega)
  have k2_a0 := Blk.below (g := w.heap.size) (t := 41) (cs := #[.bool b0, .slice A0 n0 c0]) (by repeat (first | (with_reducible first | assumption | (refine Hid.out ?_; assumption) | apply Blk.drew_) | ((with_reducible refine Blk.new _ _ ?_ _ _) <;> (first | rfl | (simp; done))) | (with_reducible first | refine Blk.alloc_ ?_ _ | apply Blk.own2 | refine Blk.other2 ?_ (by omega) | (apply Blk.below; rotate_left; assumption)))) hb2
  have p2_a0 := k2_a0.cell0
  have d2_a0 : w.heap.size < w2.heap.size := k2_a0.lt
  have q2_a0 := k2_a0.cell1
  have K2_a0 := Lib.hid k2_a0; clear k2_a0
  have k2_a1 := Blk.below (g := w.heap.size + 1) (t := 41) (cs := #[.bool b1, .slice A1 n1 c1]) (by repeat (first | (with_reducible first | assumption | (refine Hid.out ?_; assumption) | apply Blk.drew_) | ((with_reducible refine Blk.new _ _ ?_ _ _) <;> (first | rfl | (simp; done))) | (with_reducible first | refine Blk.alloc_ ?_ _ | apply Blk.own2 | refine Blk.other2 ?_ (by omega) | (apply Blk.below; rotate_left; assumption)))) hb2
  have p2_a1 := k2_a1.cell0
  have d2_a1 : w.heap.size + 1 < w2.heap.size := k2_a1.lt
  have q2_a1 := k2_a1.cell1
  have K2_a1 := Lib.hid k2_a1; clear k2_a1
  have f0_2 := Lib.hid (show LimI 14 w2 (.agg #[.bool b0, .slice A0 n0 c0]) X0 from (by repeat (with_reducible first | assumption | (refine Hid.out ?_; assumption) | apply LimI.drew_ | apply IsInt.drew_ | refine LimI.alloc_ ?_ _ | refine IsInt.alloc_ ?_ _ | (apply LimI.below; rotate_left; assumption) | (apply IsInt.below; rotate_left; assumption))))
  have f1_2 := Lib.hid (show LimI 14 w2 (.agg #[.bool b1, .slice A1 n1 c1]) X1 from (by repeat (with_reducible first | assumption | (refine Hid.out ?_; assumption) | apply LimI.drew_ | apply IsInt.drew_ | refine LimI.alloc_ ?_ _ | refine IsInt.alloc_ ?_ _ | (apply LimI.below; rotate_left; assumption) | (apply IsInt.below; rotate_left; assumption))))
  have HB2 := Lib.hid (show Below w.heap.size w w2 from (by repeat first | exact Below.refl _ _ | exact HB1.out | (with_reducible refine Below.trans ?_ (Below.mono (by with_reducible assumption) ?_)) | (with_reducible refine Below.alloc_ ?_ ?_ _) | (with_reducible refine Below.drew ?_) | (with_reducible refine Below.set2 ?_ ?_) | exact Nat.le_refl _ | omega | focus (simp <;> omega)))
  have hs2 : w.heap.size ≤ w2.heap.size := HB2.out.size
  clear K1_a0 K1_a1 f0_1 f1_1 HB1 hb2
  go_wp2_with fail
  refine Calls.mono (few_any b1 A1 n1 c1 _ true G1.out) ?_
  rintro e w3 ⟨rfl, hb3⟩
  have hz3 : w2.heap.size ≤ w3.heap.size := (by have hz := hb3.size; (try simp at hz); omega)
  have k3_a0 := Blk.below (g := w.heap.size) (t := 41) (cs := #[.bool b0, .slice A0 n0 c0]) (by repeat (first | (with_reducible first | assumption | (refine Hid.out ?_; assumption) | apply Blk.drew_) | ((with_reducible refine Blk.new _ _ ?_ _ _) <;> (first | rfl | (simp; done))) | (with_reducible first | refine Blk.alloc_ ?_ _ | apply Blk.own2 | refine Blk.other2 ?_ (by omega) | (apply Blk.below; rotate_left; assumption)))) hb3
  have p3_a0 := k3_a0.cell0
  have d3_a0 : w.heap.size < w3.heap.size := k3_a0.lt
  have q3_a0 := k3_a0.cell1
  have K3_a0 := Lib.hid k3_a0; clear k3_a0
  have k3_a1 := Blk.below (g := w.heap.size + 1) (t := 41) (cs := #[.bool b1, .slice A1 n1 c1]) (by repeat (first | (with_reducible first | assumption | (refine Hid.out ?_; assumption) | apply Blk.drew_) | ((with_reducible refine Blk.new _ _ ?_ _ _) <;> (first | rfl | (simp; done))) | (with_reducible first | refine Blk.alloc_ ?_ _ | apply Blk.own2 | refine Blk.other2 ?_ (by omega) | (apply Blk.below; rotate_left; assumption)))) hb3
  have p3_a1 := k3_a1.cell0
  have d3_a1 : w.heap.size + 1 < w3.heap.size := k3_a1.lt
  have q3_a1 := k3_a1.cell1
  have K3_a1 := Lib.hid k3_a1; clear k3_a1
  have f0_3 := Lib.hid (show LimI 14 w3 (.agg #[.bool b0, .slice A0 n0 c0]) X0 from (by repeat (with_reducible first | assumption | (refine Hid.out ?_; assumption) | apply LimI.drew_ | apply IsInt.drew_ | refine LimI.alloc_ ?_ _ | refine IsInt.alloc_ ?_ _ | (apply LimI.below; rotate_left; assumption) | (apply IsInt.below; rotate_left; assumption))))
  have f1_3 := Lib.hid (show LimI 14 w3 (.agg #[.bool b1, .slice A1 n1 c1]) X1 from (by repeat (with_reducible first | assumption | (refine Hid.out ?_; assumption) | apply LimI.drew_ | apply IsInt.drew_ | refine LimI.alloc_ ?_ _ | refine IsInt.alloc_ ?_ _ | (apply LimI.below; rotate_left; assumption) | (apply IsInt.below; rotate_left; assumption))))
  have HB3 := Lib.hid (show Below w.heap.size w w3 from (by repeat first | exact Below.refl _ _ | exact HB2.out | (with_reducible refine Below.trans ?_ (Below.mono (by with_reducible assumption) ?_)) | (with_reducible refine Below.alloc_ ?_ ?_ _) | (with_reducible refine Below.drew ?_) | (with_reducible refine Below.set2 ?_ ?_) | exact Nat.le_refl _ | omega | focus (simp <;> omega)))
  have hs3 : w.heap.size ≤ w3.heap.size := HB3.out.size
  clear K2_a0 K2_a1 f0_2 f1_2 HB2 hb3
  go_wp2_with fail
  refine Calls.mono (li_small_val (k := 14) (X := X0) (by repeat (with_reducible first | assumption | (refine Hid.out ?_; assumption) | apply LimI.drew_ | apply IsInt.drew_ | refine LimI.alloc_ ?_ _ | refine IsInt.alloc_ ?_ _ | (apply LimI.below; rotate_left; assumption) | (apply IsInt.below; rotate_left; assumption))) (by omega)) ?_
  rintro e w4 ⟨rfl, hb4⟩
  have hz4 : w3.heap.size ≤ w4.heap.size := (by have hz := hb4.size; (try simp at hz); omega)
  have k4_a0 := Blk.below (g := w.heap.size) (t := 41) (cs := #[.bool b0, .slice A0 n0 c0]) (by repeat (first | (with_reducible first | assumption | (refine Hid.out ?_; assumption) | apply Blk.drew_) | ((with_reducible refine Blk.new _ _ ?_ _ _) <;> (first | rfl | (simp; done))) | (with_reducible first | refine Blk.alloc_ ?_ _ | apply Blk.own2 | refine Blk.other2 ?_ (by omega) | (apply Blk.below; rotate_left; assumption)))) hb4
  have p4_a0 := k4_a0.cell0
  have d4_a0 : w.heap.size < w4.heap.size := k4_a0.lt
  have q4_a0 := k4_a0.cell1
  have K4_a0 := Lib.hid k4_a0; clear k4_a0
  have k4_a1 := Blk.below (g := w.heap.size + 1) (t := 41) (cs := #[.bool b1, .slice A1 n1 c1]) (by repeat (first | (with_reducible first | assumption | (refine Hid.out ?_; assumption) | apply Blk.drew_) | ((with_reducible refine Blk.new _ _ ?_ _ _) <;> (first | rfl | (simp; done))) | (with_reducible first | refine Blk.alloc_ ?_ _ | apply Blk.own2 | refine Blk.other2 ?_ (by omega) | (apply Blk.below; rotate_left; assumption)))) hb4
  have p4_a1 := k4_a1.cell0
  have d4_a1 : w.heap.size + 1 < w4.heap.size := k4_a1.lt
  have q4_a1 := k4_a1.cell1
  have K4_a1 := Lib.hid k4_a1; clear k4_a1
  have f0_4 := Lib.hid (show LimI 14 w4 (.agg #[.bool b0, .slice A0 n0 c0]) X0 from (by repeat (with_reducible first | assumption | (refine Hid.out ?_; assumption) | apply LimI.drew_ | apply IsInt.drew_ | refine LimI.alloc_ ?_ _ | refine IsInt.alloc_ ?_ _ | (apply LimI.below; rotate_left; assumption) | (apply IsInt.below; rotate_left; assumption))))
  have f1_4 := Lib.hid (show LimI 14 w4 (.agg #[.bool b1, .slice A1 n1 c1]) X1 from (by repeat (with_reducible first | assumption | (refine Hid.out ?_; assumption) | apply LimI.drew_ | apply IsInt.drew_ | refine LimI.alloc_ ?_ _ | refine IsInt.alloc_ ?_ _ | (apply LimI.below; rotate_left; assumption) | (apply IsInt.below; rotate_left; assumption))))
  have HB4 := Lib.hid (show Below w.heap.size w w4 from (by repeat first | exact Below.refl _ _ | exact HB3.out | (with_reducible refine Below.trans ?_ (Below.mono (by with_reducible assumption) ?_)) | (with_reducible refine Below.alloc_ ?_ ?_ _) | (with_reducible refine Below.drew ?_) | (with_reducible refine Below.set2 ?_ ?_) | exact Nat.le_refl _ | omega | focus (simp <;> omega)))
  have hs4 : w.heap.size ≤ w4.heap.size := HB4.out.size
  clear K3_a0 K3_a1 f0_3 f1_3 HB3 hb4
  go_wp2_with fail
  refine Calls.mono (li_rsmall_val (k := 14) (X := X0) (by repeat (with_reducible first | assumption | (refine Hid.out ?_; assumption) | apply LimI.drew_ | apply IsInt.drew_ | refine LimI.alloc_ ?_ _ | refine IsInt.alloc_ ?_ _ | (apply LimI.below; rotate_left; assumption) | (apply IsInt.below; rotate_left; assumption))) (by omega)) ?_
  rintro e w5 ⟨rfl, hb5⟩
  have hz5 : w4.heap.size ≤ w5.heap.size := (by have hz := hb5.size; (try simp at hz); omega)
  have k5_a0 := Blk.below (g := w.heap.size) (t := 41) (cs := #[.bool b0, .slice A0 n0 c0]) (by repeat (first | (with_reducible first | assumption | (refine Hid.out ?_; assumption) | apply Blk.drew_) | ((with_reducible refine Blk.new _ _ ?_ _ _) <;> (first | rfl | (simp; done))) | (with_reducible first | refine Blk.alloc_ ?_ _ | apply Blk.own2 | refine Blk.other2 ?_ (by omega) | (apply Blk.below; rotate_left; assumption)))) hb5
  have p5_a0 := k5_a0.cell0
  have d5_a0 : w.heap.size < w5.heap.size := k5_a0.lt
  have q5_a0 := k5_a0.cell1
  have K5_a0 := Lib.hid k5_a0; clear k5_a0
  have k5_a1 := Blk.below (g := w.heap.size + 1) (t := 41) (cs := #[.bool b1, .slice A1 n1 c1]) (by repeat (first | (with_reducible first | assumption | (refine Hid.out ?_; assumption) | apply Blk.drew_) | ((with_reducible refine Blk.new _ _ ?_ _ _) <;> (first | rfl | (simp; done))) | (with_reducible first | refine Blk.alloc_ ?_ _ | apply Blk.own2 | refine Blk.other2 ?_ (by omega) | (apply Blk.below; rotate_left; assumption)))) hb5
  have p5_a1 := k5_a1.cell0
  have d5_a1 : w.heap.size + 1 < w5.heap.size := k5_a1.lt
  have q5_a1 := k5_a1.cell1
  have K5_a1 := Lib.hid k5_a1; clear k5_a1
  have f0_5 := Lib.hid (show LimI 14 w5 (.agg #[.bool b0, .slice A0 n0 c0]) X0 from (by repeat (with_reducible first | assumption | (refine Hid.out ?_; assumption) | apply LimI.drew_ | apply IsInt.drew_ | refine LimI.alloc_ ?_ _ | refine IsInt.alloc_ ?_ _ | (apply LimI.below; rotate_left; assumption) | (apply IsInt.below; rotate_left; assumption))))
  have f1_5 := Lib.hid (show LimI 14 w5 (.agg #[.bool b1, .slice A1 n1 c1]) X1 from (by repeat (with_reducible first | assumption | (refine Hid.out ?_; assumption) | apply LimI.drew_ | apply IsInt.drew_ | refine LimI.alloc_ ?_ _ | refine IsInt.alloc_ ?_ _ | (apply LimI.below; rotate_left; assumption) | (apply IsInt.below; rotate_left; assumption))))
  have HB5 := Lib.hid (show Below w.heap.size w w5 from (by repeat first | exact Below.refl _ _ | exact HB4.out | (with_reducible refine Below.trans ?_ (Below.mono (by with_reducible assumption) ?_)) | (with_reducible refine Below.alloc_ ?_ ?_ _) | (with_reducible refine Below.drew ?_) | (with_reducible refine Below.set2 ?_ ?_) | exact Nat.le_refl _ | omega | focus (simp <;> omega)))
  have hs5 : w.heap.size ≤ w5.heap.size := HB5.out.size
  clear K4_a0 K4_a1 f0_4 f1_4 HB4 hb5
  go_wp2_with fail
  refine Calls.mono (of_any nn _ HV.out.1 HV.out.2) ?_
  rintro e w6 ⟨v6, rfl, h6, hb6⟩
  have hz6 : w5.heap.size ≤ w6.heap.size := (by have hz := hb6.size; (try simp at hz); omega)
  have k6_a0 := Blk.below (g := w.heap.size) (t := 41) (cs := #[.bool b0, .slice A0 n0 c0]) (by repeat (first | (with_reducible first | assumption | (refine Hid.out ?_; assumption) | apply Blk.drew_) | ((with_reducible refine Blk.new _ _ ?_ _ _) <;> (first | rfl | (simp; done))) | (with_reducible first | refine Blk.alloc_ ?_ _ | apply Blk.own2 | refine Blk.other2 ?_ (by omega) | (apply Blk.below; rotate_left; assumption)))) hb6
  have p6_a0 := k6_a0.cell0
  have d6_a0 : w.heap.size < w6.heap.size := k6_a0.lt
  have q6_a0 := k6_a0.cell1
  have K6_a0 := Lib.hid k6_a0; clear k6_a0
  have k6_a1 := Blk.below (g := w.heap.size + 1) (t := 41) (cs := #[.bool b1, .slice A1 n1 c1]) (by repeat (first | (with_reducible first | assumption | (refine Hid.out ?_; assumption) | apply Blk.drew_) | ((with_reducible refine Blk.new _ _ ?_ _ _) <;> (first | rfl | (simp; done))) | (with_reducible first | refine Blk.alloc_ ?_ _ | apply Blk.own2 | refine Blk.other2 ?_ (by omega) | (apply Blk.below; rotate_left; assumption)))) hb6
  have p6_a1 := k6_a1.cell0
  have d6_a1 : w.heap.size + 1 < w6.heap.size := k6_a1.lt
  have q6_a1 := k6_a1.cell1
  have K6_a1 := Lib.hid k6_a1; clear k6_a1
  have f0_6 := Lib.hid (show LimI 14 w6 (.agg #[.bool b0, .slice A0 n0 c0]) X0 from (by repeat (with_reducible first | assumption | (refine Hid.out ?_; assumption) | apply LimI.drew_ | apply IsInt.drew_ | refine LimI.alloc_ ?_ _ | refine IsInt.alloc_ ?_ _ | (apply LimI.below; rotate_left; assumption) | (apply IsInt.below; rotate_left; assumption))))
  have f1_6 := Lib.hid (show LimI 14 w6 (.agg #[.bool b1, .slice A1 n1 c1]) X1 from (by repeat (with_reducible first | assumption | (refine Hid.out ?_; assumption) | apply LimI.drew_ | apply IsInt.drew_ | refine LimI.alloc_ ?_ _ | refine IsInt.alloc_ ?_ _ | (apply LimI.below; rotate_left; assumption) | (apply IsInt.below; rotate_left; assumption))))
  have o_6 := Lib.hid (show IsInt w6 v6 nn from h6)
  have HB6 := Lib.hid (show Below w.heap.size w w6 from (by repeat first | exact Below.refl _ _ | exact HB5.out | (with_reducible refine Below.trans ?_ (Below.mono (by with_reducible assumption) ?_)) | (with_reducible refine Below.alloc_ ?_ ?_ _) | (with_reducible refine Below.drew ?_) | (with_reducible refine Below.set2 ?_ ?_) | exact Nat.le_refl _ | omega | focus (simp <;> omega)))
  have hs6 : w.heap.size ≤ w6.heap.size := HB6.out.size
  clear K5_a0 K5_a1 f0_5 f1_5 HB5 hb6
  go_wp2_with fail
  refine Calls.mono (li_small_is (k := 2) (X := nn) (IsInt.lim (k := 2) (Z := nn) (by repeat (with_reducible first | assumption | (refine Hid.out ?_; assumption) | apply LimI.drew_ | apply IsInt.drew_ | refine LimI.alloc_ ?_ _ | refine IsInt.alloc_ ?_ _ | (apply LimI.below; rotate_left; assumption) | (apply IsInt.below; rotate_left; assumption))) HNN.out) (by omega) HV.out.1 HV.out.2) ?_
  rintro e w7 ⟨rfl, hb7⟩
  have hz7 : w6.heap.size ≤ w7.heap.size := (by have hz := hb7.size; (try simp at hz); omega)
  have k7_a0 := Blk.below (g := w.heap.size) (t := 41) (cs := #[.bool b0, .slice A0 n0 c0]) (by repeat (first | (with_reducible first | assumption | (refine Hid.out ?_; assumption) | apply Blk.drew_) | ((with_reducible refine Blk.new _ _ ?_ _ _) <;> (first | rfl | (simp; done))) | (with_reducible first | refine Blk.alloc_ ?_ _ | apply Blk.own2 | refine Blk.other2 ?_ (by omega) | (apply Blk.below; rotate_left; assumption)))) hb7
  have p7_a0 := k7_a0.cell0
  have d7_a0 : w.heap.size < w7.heap.size := k7_a0.lt
  have q7_a0 := k7_a0.cell1
  have K7_a0 := Lib.hid k7_a0; clear k7_a0
  have k7_a1 := Blk.below (g := w.heap.size + 1) (t := 41) (cs := #[.bool b1, .slice A1 n1 c1]) (by repeat (first | (with_reducible first | assumption | (refine Hid.out ?_; assumption) | apply Blk.drew_) | ((with_reducible refine Blk.new _ _ ?_ _ _) <;> (first | rfl | (simp; done))) | (with_reducible first | refine Blk.alloc_ ?_ _ | apply Blk.own2 | refine Blk.other2 ?_ (by omega) | (apply Blk.below; rotate_left; assumption)))) hb7
  have p7_a1 := k7_a1.cell0
  have d7_a1 : w.heap.size + 1 < w7.heap.size := k7_a1.lt
  have q7_a1 := k7_a1.cell1
  have K7_a1 := Lib.hid k7_a1; clear k7_a1
  have f0_7 := Lib.hid (show LimI 14 w7 (.agg #[.bool b0, .slice A0 n0 c0]) X0 from (by repeat (with_reducible first | assumption | (refine Hid.out ?_; assumption) | apply LimI.drew_ | apply IsInt.drew_ | refine LimI.alloc_ ?_ _ | refine IsInt.alloc_ ?_ _ | (apply LimI.below; rotate_left; assumption) | (apply IsInt.below; rotate_left; assumption))))
  have f1_7 := Lib.hid (show LimI 14 w7 (.agg #[.bool b1, .slice A1 n1 c1]) X1 from (by repeat (with_reducible first | assumption | (refine Hid.out ?_; assumption) | apply LimI.drew_ | apply IsInt.drew_ | refine LimI.alloc_ ?_ _ | refine IsInt.alloc_ ?_ _ | (apply LimI.below; rotate_left; assumption) | (apply IsInt.below; rotate_left; assumption))))
  have HB7 := Lib.hid (show Below w.heap.size w w7 from (by repeat first | exact Below.refl _ _ | exact HB6.out | (with_reducible refine Below.trans ?_ (Below.mono (by with_reducible assumption) ?_)) | (with_reducible refine Below.alloc_ ?_ ?_ _) | (with_reducible refine Below.drew ?_) | (with_reducible refine Below.set2 ?_ ?_) | exact Nat.le_refl _ | omega | focus (simp <;> omega)))
  have hs7 : w.heap.size ≤ w7.heap.size := HB7.out.size
  clear K6_a0 K6_a1 f0_6 f1_6 o_6 HB6 hb7
  go_wp2_with fail
  refine Calls.mono (HD1.out 14 14 _ _ _ (by repeat (with_reducible first | assumption | (refine Hid.out ?_; assumption) | apply LimI.drew_ | apply IsInt.drew_ | refine LimI.alloc_ ?_ _ | refine IsInt.alloc_ ?_ _ | (apply LimI.below; rotate_left; assumption) | (apply IsInt.below; rotate_left; assumption))) (by repeat (with_reducible first | assumption | (refine Hid.out ?_; assumption) | apply LimI.drew_ | apply IsInt.drew_ | refine LimI.alloc_ ?_ _ | refine IsInt.alloc_ ?_ _ | (apply LimI.below; rotate_left; assumption) | (apply IsInt.below; rotate_left; assumption))) (by omega) (by omega)) ?_
  rintro e w8 ⟨vq, vr, rfl, hq8, hr8, hb8⟩
  obtain ⟨bhq8, Ahq8, nhq8, chq8, rfl, -, -, hq8⟩ := hq8.form
  obtain ⟨bhr8, Ahr8, nhr8, chr8, rfl, shr8, zhr8, hr8⟩ := hr8.form
  have hln : ((nhr8 : Int) == 0) = false := (by rw [beq_eq_false_iff_ne];have := zhr8.2 HR0.out;omega)
  rw [HRP.out] at shr8
  replace shr8 := shr8.symm
  subst shr8
  clear zhr8
  have hz8 : w7.heap.size ≤ w8.heap.size := (by have hz := hb8.size; (try simp at hz); omega)
  have k8_a0 := Blk.below (g := w.heap.size) (t := 41) (cs := #[.bool b0, .slice A0 n0 c0]) (by repeat (first | (with_reducible first | assumption | (refine Hid.out ?_; assumption) | apply Blk.drew_) | ((with_reducible refine Blk.new _ _ ?_ _ _) <;> (first | rfl | (simp; done))) | (with_reducible first | refine Blk.alloc_ ?_ _ | apply Blk.own2 | refine Blk.other2 ?_ (by omega) | (apply Blk.below; rotate_left; assumption)))) hb8
  have p8_a0 := k8_a0.cell0
  have d8_a0 : w.heap.size < w8.heap.size := k8_a0.lt
  have q8_a0 := k8_a0.cell1
  have K8_a0 := Lib.hid k8_a0; clear k8_a0
  have k8_a1 := Blk.below (g := w.heap.size + 1) (t := 41) (cs := #[.bool b1, .slice A1 n1 c1]) (by repeat (first | (with_reducible first | assumption | (refine Hid.out ?_; assumption) | apply Blk.drew_) | ((with_reducible refine Blk.new _ _ ?_ _ _) <;> (first | rfl | (simp; done))) | (with_reducible first | refine Blk.alloc_ ?_ _ | apply Blk.own2 | refine Blk.other2 ?_ (by omega) | (apply Blk.below; rotate_left; assumption)))) hb8
  have p8_a1 := k8_a1.cell0
  have d8_a1 : w.heap.size + 1 < w8.heap.size := k8_a1.lt
  have q8_a1 := k8_a1.cell1
  have K8_a1 := Lib.hid k8_a1; clear k8_a1
  have f0_8 := Lib.hid (show LimI 14 w8 (.agg #[.bool b0, .slice A0 n0 c0]) X0 from (by repeat (with_reducible first | assumption | (refine Hid.out ?_; assumption) | apply LimI.drew_ | apply IsInt.drew_ | refine LimI.alloc_ ?_ _ | refine IsInt.alloc_ ?_ _ | (apply LimI.below; rotate_left; assumption) | (apply IsInt.below; rotate_left; assumption))))
  have f1_8 := Lib.hid (show LimI 14 w8 (.agg #[.bool b1, .slice A1 n1 c1]) X1 from (by repeat (with_reducible first | assumption | (refine Hid.out ?_; assumption) | apply LimI.drew_ | apply IsInt.drew_ | refine LimI.alloc_ ?_ _ | refine IsInt.alloc_ ?_ _ | (apply LimI.below; rotate_left; assumption) | (apply IsInt.below; rotate_left; assumption))))
  have q_8 := Lib.hid (show IsInt w8 (.agg #[.bool bhq8, .slice Ahq8 nhq8 chq8]) q from hq8)
  have r_8 := Lib.hid (show IsInt w8 (.agg #[.bool p, .slice Ahr8 nhr8 chr8]) r from hr8)
  have HB8 := Lib.hid (show Below w.heap.size w w8 from (by repeat first | exact Below.refl _ _ | exact HB7.out | (with_reducible refine Below.trans ?_ (Below.mono (by with_reducible assumption) ?_)) | (with_reducible refine Below.alloc_ ?_ ?_ _) | (with_reducible refine Below.drew ?_) | (with_reducible refine Below.set2 ?_ ?_) | exact Nat.le_refl _ | omega | focus (simp <;> omega)))
  have hs8 : w.heap.size ≤ w8.heap.size := HB8.out.size
  clear K7_a0 K7_a1 f0_7 f1_7 HB7 hb8
  go_wp2_with fail
  refine Calls.mono (of_any nn _ HV.out.1 HV.out.2) ?_
  rintro e w9 ⟨v9, rfl, h9, hb9⟩
  have hz9 : w8.heap.size + 2 ≤ w9.heap.size := (by have hz := hb9.size; (try simp at hz); omega)
  have k9_a0 := Blk.below (g := w.heap.size) (t := 41) (cs := #[.bool b0, .slice A0 n0 c0]) (by repeat (first | (with_reducible first | assumption | (refine Hid.out ?_; assumption) | apply Blk.drew_) | ((with_reducible refine Blk.new _ _ ?_ _ _) <;> (first | rfl | (simp; done))) | (with_reducible first | refine Blk.alloc_ ?_ _ | apply Blk.own2 | refine Blk.other2 ?_ (by omega) | (apply Blk.below; rotate_left; assumption)))) hb9
  have p9_a0 := k9_a0.cell0
  have d9_a0 : w.heap.size < w9.heap.size := k9_a0.lt
  have q9_a0 := k9_a0.cell1
  have K9_a0 := Lib.hid k9_a0; clear k9_a0
  have k9_a1 := Blk.below (g := w.heap.size + 1) (t := 41) (cs := #[.bool b1, .slice A1 n1 c1]) (by repeat (first | (with_reducible first | assumption | (refine Hid.out ?_; assumption) | apply Blk.drew_) | ((with_reducible refine Blk.new _ _ ?_ _ _) <;> (first | rfl | (simp; done))) | (with_reducible first | refine Blk.alloc_ ?_ _ | apply Blk.own2 | refine Blk.other2 ?_ (by omega) | (apply Blk.below; rotate_left; assumption)))) hb9
  have p9_a1 := k9_a1.cell0
  have d9_a1 : w.heap.size + 1 < w9.heap.size := k9_a1.lt
  have q9_a1 := k9_a1.cell1
  have K9_a1 := Lib.hid k9_a1; clear k9_a1
  have k9_q := Blk.below (g := w8.heap.size) (t := 41) (cs := #[.bool bhq8, .slice Ahq8 nhq8 chq8]) (by repeat (first | (with_reducible first | assumption | (refine Hid.out ?_; assumption) | apply Blk.drew_) | ((with_reducible refine Blk.new _ _ ?_ _ _) <;> (first | rfl | (simp; done))) | (with_reducible first | refine Blk.alloc_ ?_ _ | apply Blk.own2 | refine Blk.other2 ?_ (by omega) | (apply Blk.below; rotate_left; assumption)))) hb9
  have p9_q := k9_q.cell0
  have d9_q : w8.heap.size < w9.heap.size := k9_q.lt
  have q9_q := k9_q.cell1
  have K9_q := Lib.hid k9_q; clear k9_q
  have k9_r := Blk.below (g := w8.heap.size + 1) (t := 41) (cs := #[.bool p, .slice Ahr8 nhr8 chr8]) (by repeat (first | (with_reducible first | assumption | (refine Hid.out ?_; assumption) | apply Blk.drew_) | ((with_reducible refine Blk.new _ _ ?_ _ _) <;> (first | rfl | (simp; done))) | (with_reducible first | refine Blk.alloc_ ?_ _ | apply Blk.own2 | refine Blk.other2 ?_ (by omega) | (apply Blk.below; rotate_left; assumption)))) hb9
  have p9_r := k9_r.cell0
  have d9_r : w8.heap.size + 1 < w9.heap.size := k9_r.lt
  have q9_r := k9_r.cell1
  have K9_r := Lib.hid k9_r; clear k9_r
  have f0_9 := Lib.hid (show LimI 14 w9 (.agg #[.bool b0, .slice A0 n0 c0]) X0 from (by repeat (with_reducible first | assumption | (refine Hid.out ?_; assumption) | apply LimI.drew_ | apply IsInt.drew_ | refine LimI.alloc_ ?_ _ | refine IsInt.alloc_ ?_ _ | (apply LimI.below; rotate_left; assumption) | (apply IsInt.below; rotate_left; assumption))))
  have f1_9 := Lib.hid (show LimI 14 w9 (.agg #[.bool b1, .slice A1 n1 c1]) X1 from (by repeat (with_reducible first | assumption | (refine Hid.out ?_; assumption) | apply LimI.drew_ | apply IsInt.drew_ | refine LimI.alloc_ ?_ _ | refine IsInt.alloc_ ?_ _ | (apply LimI.below; rotate_left; assumption) | (apply IsInt.below; rotate_left; assumption))))
  have q_9 := Lib.hid (show IsInt w9 (.agg #[.bool bhq8, .slice Ahq8 nhq8 chq8]) q from (by repeat (with_reducible first | assumption | (refine Hid.out ?_; assumption) | apply LimI.drew_ | apply IsInt.drew_ | refine LimI.alloc_ ?_ _ | refine IsInt.alloc_ ?_ _ | (apply LimI.below; rotate_left; assumption) | (apply IsInt.below; rotate_left; assumption))))
  have r_9 := Lib.hid (show IsInt w9 (.agg #[.bool p, .slice Ahr8 nhr8 chr8]) r from (by repeat (with_reducible first | assumption | (refine Hid.out ?_; assumption) | apply LimI.drew_ | apply IsInt.drew_ | refine LimI.alloc_ ?_ _ | refine IsInt.alloc_ ?_ _ | (apply LimI.below; rotate_left; assumption) | (apply IsInt.below; rotate_left; assumption))))
  have o_9 := Lib.hid (show IsInt w9 v9 nn from h9)
  have HB9 := Lib.hid (show Below w.heap.size w w9 from (by repeat first | exact Below.refl _ _ | exact HB8.out | (with_reducible refine Below.trans ?_ (Below.mono (by with_reducible assumption) ?_)) | (with_reducible refine Below.alloc_ ?_ ?_ _) | (with_reducible refine Below.drew ?_) | (with_reducible refine Below.set2 ?_ ?_) | exact Nat.le_refl _ | omega | focus (simp <;> omega)))
  have hs9 : w.heap.size ≤ w9.heap.size := HB9.out.size
  clear K8_a0 K8_a1 f0_8 f1_8 q_8 r_8 HB8 hb9
  go_wp2_with fail
  refine Calls.mono (li_text (k := 2) (X := nn) (IsInt.lim (k := 2) (Z := nn) (by repeat (with_reducible first | assumption | (refine Hid.out ?_; assumption) | apply LimI.drew_ | apply IsInt.drew_ | refine LimI.alloc_ ?_ _ | refine IsInt.alloc_ ?_ _ | (apply LimI.below; rotate_left; assumption) | (apply IsInt.below; rotate_left; assumption))) HNN.out) (by omega)) ?_
  rintro e w10 ⟨rfl, hb10⟩
  have hz10 : w9.heap.size ≤ w10.heap.size := (by have hz := hb10.size; (try simp at hz); omega)
  have k10_a0 := Blk.below (g := w.heap.size) (t := 41) (cs := #[.bool b0, .slice A0 n0 c0]) (by repeat (first | (with_reducible first | assumption | (refine Hid.out ?_; assumption) | apply Blk.drew_) | ((with_reducible refine Blk.new _ _ ?_ _ _) <;> (first | rfl | (simp; done))) | (with_reducible first | refine Blk.alloc_ ?_ _ | apply Blk.own2 | refine Blk.other2 ?_ (by omega) | (apply Blk.below; rotate_left; assumption)))) hb10
  have p10_a0 := k10_a0.cell0
  have d10_a0 : w.heap.size < w10.heap.size := k10_a0.lt
  have q10_a0 := k10_a0.cell1
  have K10_a0 := Lib.hid k10_a0; clear k10_a0
  have k10_a1 := Blk.below (g := w.heap.size + 1) (t := 41) (cs := #[.bool b1, .slice A1 n1 c1]) (by repeat (first | (with_reducible first | assumption | (refine Hid.out ?_; assumption) | apply Blk.drew_) | ((with_reducible refine Blk.new _ _ ?_ _ _) <;> (first | rfl | (simp; done))) | (with_reducible first | refine Blk.alloc_ ?_ _ | apply Blk.own2 | refine Blk.other2 ?_ (by omega) | (apply Blk.below; rotate_left; assumption)))) hb10
  have p10_a1 := k10_a1.cell0
  have d10_a1 : w.heap.size + 1 < w10.heap.size := k10_a1.lt
  have q10_a1 := k10_a1.cell1
  have K10_a1 := Lib.hid k10_a1; clear k10_a1
  have k10_q := Blk.below (g := w8.heap.size) (t := 41) (cs := #[.bool bhq8, .slice Ahq8 nhq8 chq8]) (by repeat (first | (with_reducible first | assumption | (refine Hid.out ?_; assumption) | apply Blk.drew_) | ((with_reducible refine Blk.new _ _ ?_ _ _) <;> (first | rfl | (simp; done))) | (with_reducible first | refine Blk.alloc_ ?_ _ | apply Blk.own2 | refine Blk.other2 ?_ (by omega) | (apply Blk.below; rotate_left; assumption)))) hb10
  have p10_q := k10_q.cell0
  have d10_q : w8.heap.size < w10.heap.size := k10_q.lt
  have q10_q := k10_q.cell1
  have K10_q := Lib.hid k10_q; clear k10_q
  have k10_r := Blk.below (g := w8.heap.size + 1) (t := 41) (cs := #[.bool p, .slice Ahr8 nhr8 chr8]) (by repeat (first | (with_reducible first | assumption | (refine Hid.out ?_; assumption) | apply Blk.drew_) | ((with_reducible refine Blk.new _ _ ?_ _ _) <;> (first | rfl | (simp; done))) | (with_reducible first | refine Blk.alloc_ ?_ _ | apply Blk.own2 | refine Blk.other2 ?_ (by omega) | (apply Blk.below; rotate_left; assumption)))) hb10
  have p10_r := k10_r.cell0
  have d10_r : w8.heap.size + 1 < w10.heap.size := k10_r.lt
  have q10_r := k10_r.cell1
  have K10_r := Lib.hid k10_r; clear k10_r
  have f0_10 := Lib.hid (show LimI 14 w10 (.agg #[.bool b0, .slice A0 n0 c0]) X0 from (by repeat (with_reducible first | assumption | (refine Hid.out ?_; assumption) | apply LimI.drew_ | apply IsInt.drew_ | refine LimI.alloc_ ?_ _ | refine IsInt.alloc_ ?_ _ | (apply LimI.below; rotate_left; assumption) | (apply IsInt.below; rotate_left; assumption))))
  have f1_10 := Lib.hid (show LimI 14 w10 (.agg #[.bool b1, .slice A1 n1 c1]) X1 from (by repeat (with_reducible first | assumption | (refine Hid.out ?_; assumption) | apply LimI.drew_ | apply IsInt.drew_ | refine LimI.alloc_ ?_ _ | refine IsInt.alloc_ ?_ _ | (apply LimI.below; rotate_left; assumption) | (apply IsInt.below; rotate_left; assumption))))
  have q_10 := Lib.hid (show IsInt w10 (.agg #[.bool bhq8, .slice Ahq8 nhq8 chq8]) q from (by repeat (with_reducible first | assumption | (refine Hid.out ?_; assumption) | apply LimI.drew_ | apply IsInt.drew_ | refine LimI.alloc_ ?_ _ | refine IsInt.alloc_ ?_ _ | (apply LimI.below; rotate_left; assumption) | (apply IsInt.below; rotate_left; assumption))))
  have r_10 := Lib.hid (show IsInt w10 (.agg #[.bool p, .slice Ahr8 nhr8 chr8]) r from (by repeat (with_reducible first | assumption | (refine Hid.out ?_; assumption) | apply LimI.drew_ | apply IsInt.drew_ | refine LimI.alloc_ ?_ _ | refine IsInt.alloc_ ?_ _ | (apply LimI.below; rotate_left; assumption) | (apply IsInt.below; rotate_left; assumption))))
  have HB10 := Lib.hid (show Below w.heap.size w w10 from (by repeat first | exact Below.refl _ _ | exact HB9.out | (with_reducible refine Below.trans ?_ (Below.mono (by with_reducible assumption) ?_)) | (with_reducible refine Below.alloc_ ?_ ?_ _) | (with_reducible refine Below.drew ?_) | (with_reducible refine Below.set2 ?_ ?_) | exact Nat.le_refl _ | omega | focus (simp <;> omega)))
  have hs10 : w.heap.size ≤ w10.heap.size := HB10.out.size
  clear K9_a0 K9_a1 K9_q K9_r f0_9 f1_9 q_9 r_9 o_9 HB9 hb10
  go_wp2_with fail
  refine Calls.mono (of_any nn _ HV.out.1 HV.out.2) ?_
  rintro e w11 ⟨v11, rfl, h11, hb11⟩
  have hz11 : w10.heap.size ≤ w11.heap.size := (by have hz := hb11.size; (try simp at hz); omega)
  have k11_a0 := Blk.below (g := w.heap.size) (t := 41) (cs := #[.bool b0, .slice A0 n0 c0]) (by repeat (first | (with_reducible first | assumption | (refine Hid.out ?_; assumption) | apply Blk.drew_) | ((with_reducible refine Blk.new _ _ ?_ _ _) <;> (first | rfl | (simp; done))) | (with_reducible first | refine Blk.alloc_ ?_ _ | apply Blk.own2 | refine Blk.other2 ?_ (by omega) | (apply Blk.below; rotate_left; assumption)))) hb11
  have p11_a0 := k11_a0.cell0
  have d11_a0 : w.heap.size < w11.heap.size := k11_a0.lt
  have q11_a0 := k11_a0.cell1
  have K11_a0 := Lib.hid k11_a0; clear k11_a0
  have k11_a1 := Blk.below (g := w.heap.size + 1) (t := 41) (cs := #[.bool b1, .slice A1 n1 c1]) (by repeat (first | (with_reducible first | assumption | (refine Hid.out ?_; assumption) | apply Blk.drew_) | ((with_reducible refine Blk.new _ _ ?_ _ _) <;> (first | rfl | (simp; done))) | (with_reducible first | refine Blk.alloc_ ?_ _ | apply Blk.own2 | refine Blk.other2 ?_ (by omega) | (apply Blk.below; rotate_left; assumption)))) hb11
  have p11_a1 := k11_a1.cell0
  have d11_a1 : w.heap.size + 1 < w11.heap.size := k11_a1.lt
  have q11_a1 := k11_a1.cell1
  have K11_a1 := Lib.hid k11_a1; clear k11_a1
  have k11_q := Blk.below (g := w8.heap.size) (t := 41) (cs := #[.bool bhq8, .slice Ahq8 nhq8 chq8]) (by repeat (first | (with_reducible first | assumption | (refine Hid.out ?_; assumption) | apply Blk.drew_) | ((with_reducible refine Blk.new _ _ ?_ _ _) <;> (first | rfl | (simp; done))) | (with_reducible first | refine Blk.alloc_ ?_ _ | apply Blk.own2 | refine Blk.other2 ?_ (by omega) | (apply Blk.below; rotate_left; assumption)))) hb11
  have p11_q := k11_q.cell0
  have d11_q : w8.heap.size < w11.heap.size := k11_q.lt
  have q11_q := k11_q.cell1
  have K11_q := Lib.hid k11_q; clear k11_q
  have k11_r := Blk.below (g := w8.heap.size + 1) (t := 41) (cs := #[.bool p, .slice Ahr8 nhr8 chr8]) (by repeat (first | (with_reducible first | assumption | (refine Hid.out ?_; assumption) | apply Blk.drew_) | ((with_reducible refine Blk.new _ _ ?_ _ _) <;> (first | rfl | (simp; done))) | (with_reducible first | refine Blk.alloc_ ?_ _ | apply Blk.own2 | refine Blk.other2 ?_ (by omega) | (apply Blk.below; rotate_left; assumption)))) hb11
  have p11_r := k11_r.cell0
  have d11_r : w8.heap.size + 1 < w11.heap.size := k11_r.lt
  have q11_r := k11_r.cell1
  have K11_r := Lib.hid k11_r; clear k11_r
  have f0_11 := Lib.hid (show LimI 14 w11 (.agg #[.bool b0, .slice A0 n0 c0]) X0 from (by repeat (with_reducible first | assumption | (refine Hid.out ?_; assumption) | apply LimI.drew_ | apply IsInt.drew_ | refine LimI.alloc_ ?_ _ | refine IsInt.alloc_ ?_ _ | (apply LimI.below; rotate_left; assumption) | (apply IsInt.below; rotate_left; assumption))))
  have f1_11 := Lib.hid (show LimI 14 w11 (.agg #[.bool b1, .slice A1 n1 c1]) X1 from (by repeat (with_reducible first | assumption | (refine Hid.out ?_; assumption) | apply LimI.drew_ | apply IsInt.drew_ | refine LimI.alloc_ ?_ _ | refine IsInt.alloc_ ?_ _ | (apply LimI.below; rotate_left; assumption) | (apply IsInt.below; rotate_left; assumption))))
  have q_11 := Lib.hid (show IsInt w11 (.agg #[.bool bhq8, .slice Ahq8 nhq8 chq8]) q from (by repeat (with_reducible first | assumption | (refine Hid.out ?_; assumption) | apply LimI.drew_ | apply IsInt.drew_ | refine LimI.alloc_ ?_ _ | refine IsInt.alloc_ ?_ _ | (apply LimI.below; rotate_left; assumption) | (apply IsInt.below; rotate_left; assumption))))
  have r_11 := Lib.hid (show IsInt w11 (.agg #[.bool p, .slice Ahr8 nhr8 chr8]) r from (by repeat (with_reducible first | assumption | (refine Hid.out ?_; assumption) | apply LimI.drew_ | apply IsInt.drew_ | refine LimI.alloc_ ?_ _ | refine IsInt.alloc_ ?_ _ | (apply LimI.below; rotate_left; assumption) | (apply IsInt.below; rotate_left; assumption))))
  have o_11 := Lib.hid (show IsInt w11 v11 nn from h11)
  have HB11 := Lib.hid (show Below w.heap.size w w11 from (by repeat first | exact Below.refl _ _ | exact HB10.out | (with_reducible refine Below.trans ?_ (Below.mono (by with_reducible assumption) ?_)) | (with_reducible refine Below.alloc_ ?_ ?_ _) | (with_reducible refine Below.drew ?_) | (with_reducible refine Below.set2 ?_ ?_) | exact Nat.le_refl _ | omega | focus (simp <;> omega)))
  have hs11 : w.heap.size ≤ w11.heap.size := HB11.out.size
  clear K10_a0 K10_a1 K10_q K10_r f0_10 f1_10 q_10 r_10 HB10 hb11
  go_wp2_with fail
  refine Calls.mono (li_rtext (k := 2) (X := nn) (IsInt.lim (k := 2) (Z := nn) (by repeat (with_reducible first | assumption | (refine Hid.out ?_; assumption) | apply LimI.drew_ | apply IsInt.drew_ | refine LimI.alloc_ ?_ _ | refine IsInt.alloc_ ?_ _ | (apply LimI.below; rotate_left; assumption) | (apply IsInt.below; rotate_left; assumption))) HNN.out) (by omega)) ?_
  rintro e w12 ⟨rfl, hb12⟩
  have hz12 : w11.heap.size ≤ w12.heap.size := (by have hz := hb12.size; (try simp at hz); omega)
  have k12_a0 := Blk.below (g := w.heap.size) (t := 41) (cs := #[.bool b0, .slice A0 n0 c0]) (by repeat (first | (with_reducible first | assumption | (refine Hid.out ?_; assumption) | apply Blk.drew_) | ((with_reducible refine Blk.new _ _ ?_ _ _) <;> (first | rfl | (simp; done))) | (with_reducible first | refine Blk.alloc_ ?_ _ | apply Blk.own2 | refine Blk.other2 ?_ (by omega) | (apply Blk.below; rotate_left; assumption)))) hb12
  have p12_a0 := k12_a0.cell0
  have d12_a0 : w.heap.size < w12.heap.size := k12_a0.lt
  have q12_a0 := k12_a0.cell1
  have K12_a0 := Lib.hid k12_a0; clear k12_a0
  have k12_a1 := Blk.below (g := w.heap.size + 1) (t := 41) (cs := #[.bool b1, .slice A1 n1 c1]) (by repeat (first | (with_reducible first | assumption | (refine Hid.out ?_; assumption) | apply Blk.drew_) | ((with_reducible refine Blk.new _ _ ?_ _ _) <;> (first | rfl | (simp; done))) | (with_reducible first | refine Blk.alloc_ ?_ _ | apply Blk.own2 | refine Blk.other2 ?_ (by omega) | (apply Blk.below; rotate_left; assumption)))) hb12
  have p12_a1 := k12_a1.cell0
  have d12_a1 : w.heap.size + 1 < w12.heap.size := k12_a1.lt
  have q12_a1 := k12_a1.cell1
  have K12_a1 := Lib.hid k12_a1; clear k12_a1
  have k12_q := Blk.below (g := w8.heap.size) (t := 41) (cs := #[.bool bhq8, .slice Ahq8 nhq8 chq8]) (by repeat (first | (with_reducible first | assumption | (refine Hid.out ?_; assumption) | apply Blk.drew_) | ((with_reducible refine Blk.new _ _ ?_ _ _) <;> (first | rfl | (simp; done))) | (with_reducible first | refine Blk.alloc_ ?_ _ | apply Blk.own2 | refine Blk.other2 ?_ (by omega) | (apply Blk.below; rotate_left; assumption)))) hb12
  have p12_q := k12_q.cell0
  have d12_q : w8.heap.size < w12.heap.size := k12_q.lt
  have q12_q := k12_q.cell1
  have K12_q := Lib.hid k12_q; clear k12_q
  have k12_r := Blk.below (g := w8.heap.size + 1) (t := 41) (cs := #[.bool p, .slice Ahr8 nhr8 chr8]) (by repeat (first | (with_reducible first | assumption | (refine Hid.out ?_; assumption) | apply Blk.drew_) | ((with_reducible refine Blk.new _ _ ?_ _ _) <;> (first | rfl | (simp; done))) | (with_reducible first | refine Blk.alloc_ ?_ _ | apply Blk.own2 | refine Blk.other2 ?_ (by omega) | (apply Blk.below; rotate_left; assumption)))) hb12
  have p12_r := k12_r.cell0
  have d12_r : w8.heap.size + 1 < w12.heap.size := k12_r.lt
  have q12_r := k12_r.cell1
  have K12_r := Lib.hid k12_r; clear k12_r
  have f0_12 := Lib.hid (show LimI 14 w12 (.agg #[.bool b0, .slice A0 n0 c0]) X0 from (by repeat (with_reducible first | assumption | (refine Hid.out ?_; assumption) | apply LimI.drew_ | apply IsInt.drew_ | refine LimI.alloc_ ?_ _ | refine IsInt.alloc_ ?_ _ | (apply LimI.below; rotate_left; assumption) | (apply IsInt.below; rotate_left; assumption))))
  have f1_12 := Lib.hid (show LimI 14 w12 (.agg #[.bool b1, .slice A1 n1 c1]) X1 from (by repeat (with_reducible first | assumption | (refine Hid.out ?_; assumption) | apply LimI.drew_ | apply IsInt.drew_ | refine LimI.alloc_ ?_ _ | refine IsInt.alloc_ ?_ _ | (apply LimI.below; rotate_left; assumption) | (apply IsInt.below; rotate_left; assumption))))
  have q_12 := Lib.hid (show IsInt w12 (.agg #[.bool bhq8, .slice Ahq8 nhq8 chq8]) q from (by repeat (with_reducible first | assumption | (refine Hid.out ?_; assumption) | apply LimI.drew_ | apply IsInt.drew_ | refine LimI.alloc_ ?_ _ | refine IsInt.alloc_ ?_ _ | (apply LimI.below; rotate_left; assumption) | (apply IsInt.below; rotate_left; assumption))))
  have r_12 := Lib.hid (show IsInt w12 (.agg #[.bool p, .slice Ahr8 nhr8 chr8]) r from (by repeat (with_reducible first | assumption | (refine Hid.out ?_; assumption) | apply LimI.drew_ | apply IsInt.drew_ | refine LimI.alloc_ ?_ _ | refine IsInt.alloc_ ?_ _ | (apply LimI.below; rotate_left; assumption) | (apply IsInt.below; rotate_left; assumption))))
  have HB12 := Lib.hid (show Below w.heap.size w w12 from (by repeat first | exact Below.refl _ _ | exact HB11.out | (with_reducible refine Below.trans ?_ (Below.mono (by with_reducible assumption) ?_)) | (with_reducible refine Below.alloc_ ?_ ?_ _) | (with_reducible refine Below.drew ?_) | (with_reducible refine Below.set2 ?_ ?_) | exact Nat.le_refl _ | omega | focus (simp <;> omega)))
  have hs12 : w.heap.size ≤ w12.heap.size := HB12.out.size
  clear K11_a0 K11_a1 K11_q K11_r f0_11 f1_11 q_11 r_11 o_11 HB11 hb12
  go_wp2
  have kr_a0 := K12_a0.out
  have pr_a0 := kr_a0.cell0
  have qr_a0 := kr_a0.cell1
  clear kr_a0
  have kr_a1 := K12_a1.out
  have pr_a1 := kr_a1.cell0
  have qr_a1 := kr_a1.cell1
  clear kr_a1
  have kr_q := K12_q.out
  have pr_q := kr_q.cell0
  have qr_q := kr_q.cell1
  clear kr_q
  have kr_r := K12_r.out
  have pr_r := kr_r.cell0
  have qr_r := kr_r.cell1
  clear kr_r
  have tok0 : True := trivial
  have tok1 : True := trivial
  have tok2 : True := trivial
  have tok3 : True := trivial
  have tok4 : True := trivial
  have tok5 : True := trivial
  go_region_held3 (fun w' => w'.cell? ⟨w.heap.size, 0, none⟩ = some (.bool b0) ∧ w'.cell? ⟨w.heap.size, 1, none⟩ = some (.slice A0 n0 c0) ∧ w'.cell? ⟨w.heap.size + 1, 0, none⟩ = some (.bool b1) ∧ w'.cell? ⟨w.heap.size + 1, 1, none⟩ = some (.slice A1 n1 c1) ∧ w'.cell? ⟨w8.heap.size, 0, none⟩ = some (.bool bhq8) ∧ w'.cell? ⟨w8.heap.size, 1, none⟩ = some (.slice Ahq8 nhq8 chq8) ∧ w'.cell? ⟨w8.heap.size + 1, 0, none⟩ = some (.bool p) ∧ w'.cell? ⟨w8.heap.size + 1, 1, none⟩ = some (.slice Ahr8 nhr8 chr8)) (refine ⟨?_, ?_, ?_, ?_, ?_, ?_, ?_, ?_⟩ <;> first | with_reducible assumption | ((with_reducible refine Eq.trans (cell_drew _ _) ?_); with_reducible assumption) | ((repeat rw [cell_far2 _ _ _ _ _ _ (by omega)]); with_reducible assumption) | go_keep)
    (first
      | (go_at_call 45; have _t := tok0; clear _t tok0; ((with_reducible refine Calls.mono (li_mul (k := 14) (l := 14) (X := q) (Y := X1) (IsInt.lim (k := 14) (Z := q) (by repeat (with_reducible first | assumption | (refine Hid.out ?_; assumption) | apply LimI.drew_ | apply IsInt.drew_ | refine LimI.alloc_ ?_ _ | refine IsInt.alloc_ ?_ _ | (apply LimI.below; rotate_left; assumption) | (apply IsInt.below; rotate_left; assumption))) HQ.out) (by repeat (with_reducible first | assumption | (refine Hid.out ?_; assumption) | apply LimI.drew_ | apply IsInt.drew_ | refine LimI.alloc_ ?_ _ | refine IsInt.alloc_ ?_ _ | (apply LimI.below; rotate_left; assumption) | (apply IsInt.below; rotate_left; assumption))) (by omega) (by omega)) ?_)); rintro e w13 ⟨v13, rfl, h13, hb13⟩; have hz13 : w12.heap.size ≤ w13.heap.size := (by have hz := hb13.size; (try simp at hz); omega); have k13_a0 := Blk.below (g := w.heap.size) (t := 41) (cs := #[.bool b0, .slice A0 n0 c0]) (by repeat (first | (with_reducible first | assumption | (refine Hid.out ?_; assumption) | apply Blk.drew_) | ((with_reducible refine Blk.new _ _ ?_ _ _) <;> (first | rfl | (simp; done))) | (with_reducible first | refine Blk.alloc_ ?_ _ | apply Blk.own2 | refine Blk.other2 ?_ (by omega) | (apply Blk.below; rotate_left; assumption)))) hb13; have p13_a0 := k13_a0.cell0; have d13_a0 : w.heap.size < w13.heap.size := k13_a0.lt; have q13_a0 := k13_a0.cell1; have K13_a0 := Lib.hid k13_a0; clear k13_a0; have k13_a1 := Blk.below (g := w.heap.size + 1) (t := 41) (cs := #[.bool b1, .slice A1 n1 c1]) (by repeat (first | (with_reducible first | assumption | (refine Hid.out ?_; assumption) | apply Blk.drew_) | ((with_reducible refine Blk.new _ _ ?_ _ _) <;> (first | rfl | (simp; done))) | (with_reducible first | refine Blk.alloc_ ?_ _ | apply Blk.own2 | refine Blk.other2 ?_ (by omega) | (apply Blk.below; rotate_left; assumption)))) hb13; have p13_a1 := k13_a1.cell0; have d13_a1 : w.heap.size + 1 < w13.heap.size := k13_a1.lt; have q13_a1 := k13_a1.cell1; have K13_a1 := Lib.hid k13_a1; clear k13_a1; have k13_q := Blk.below (g := w8.heap.size) (t := 41) (cs := #[.bool bhq8, .slice Ahq8 nhq8 chq8]) (by repeat (first | (with_reducible first | assumption | (refine Hid.out ?_; assumption) | apply Blk.drew_) | ((with_reducible refine Blk.new _ _ ?_ _ _) <;> (first | rfl | (simp; done))) | (with_reducible first | refine Blk.alloc_ ?_ _ | apply Blk.own2 | refine Blk.other2 ?_ (by omega) | (apply Blk.below; rotate_left; assumption)))) hb13; have p13_q := k13_q.cell0; have d13_q : w8.heap.size < w13.heap.size := k13_q.lt; have q13_q := k13_q.cell1; have K13_q := Lib.hid k13_q; clear k13_q; have k13_r := Blk.below (g := w8.heap.size + 1) (t := 41) (cs := #[.bool p, .slice Ahr8 nhr8 chr8]) (by repeat (first | (with_reducible first | assumption | (refine Hid.out ?_; assumption) | apply Blk.drew_) | ((with_reducible refine Blk.new _ _ ?_ _ _) <;> (first | rfl | (simp; done))) | (with_reducible first | refine Blk.alloc_ ?_ _ | apply Blk.own2 | refine Blk.other2 ?_ (by omega) | (apply Blk.below; rotate_left; assumption)))) hb13; have p13_r := k13_r.cell0; have d13_r : w8.heap.size + 1 < w13.heap.size := k13_r.lt; have q13_r := k13_r.cell1; have K13_r := Lib.hid k13_r; clear k13_r; have f0_13 := Lib.hid (show LimI 14 w13 (.agg #[.bool b0, .slice A0 n0 c0]) X0 from (by repeat (with_reducible first | assumption | (refine Hid.out ?_; assumption) | apply LimI.drew_ | apply IsInt.drew_ | refine LimI.alloc_ ?_ _ | refine IsInt.alloc_ ?_ _ | (apply LimI.below; rotate_left; assumption) | (apply IsInt.below; rotate_left; assumption)))); have f1_13 := Lib.hid (show LimI 14 w13 (.agg #[.bool b1, .slice A1 n1 c1]) X1 from (by repeat (with_reducible first | assumption | (refine Hid.out ?_; assumption) | apply LimI.drew_ | apply IsInt.drew_ | refine LimI.alloc_ ?_ _ | refine IsInt.alloc_ ?_ _ | (apply LimI.below; rotate_left; assumption) | (apply IsInt.below; rotate_left; assumption)))); have q_13 := Lib.hid (show IsInt w13 (.agg #[.bool bhq8, .slice Ahq8 nhq8 chq8]) q from (by repeat (with_reducible first | assumption | (refine Hid.out ?_; assumption) | apply LimI.drew_ | apply IsInt.drew_ | refine LimI.alloc_ ?_ _ | refine IsInt.alloc_ ?_ _ | (apply LimI.below; rotate_left; assumption) | (apply IsInt.below; rotate_left; assumption)))); have r_13 := Lib.hid (show IsInt w13 (.agg #[.bool p, .slice Ahr8 nhr8 chr8]) r from (by repeat (with_reducible first | assumption | (refine Hid.out ?_; assumption) | apply LimI.drew_ | apply IsInt.drew_ | refine LimI.alloc_ ?_ _ | refine IsInt.alloc_ ?_ _ | (apply LimI.below; rotate_left; assumption) | (apply IsInt.below; rotate_left; assumption)))); have u_13 := Lib.hid (show IsInt w13 v13 (q * X1) from h13); have HB13 := Lib.hid (show Below w.heap.size w w13 from (by repeat first | exact Below.refl _ _ | exact HB12.out | (with_reducible refine Below.trans ?_ (Below.mono (by with_reducible assumption) ?_)) | (with_reducible refine Below.alloc_ ?_ ?_ _) | (with_reducible refine Below.drew ?_) | (with_reducible refine Below.set2 ?_ ?_) | exact Nat.le_refl _ | omega | focus (simp <;> omega))); have hs13 : w.heap.size ≤ w13.heap.size := HB13.out.size; clear K12_a0 K12_a1 K12_q K12_r f0_12 f1_12 q_12 r_12 HB12 hb13)
      | (go_at_call 41; have _t := tok1; clear _t tok1; ((with_reducible refine Calls.mono (li_add (k := 28) (l := 14) (X := q * X1) (Y := r) (IsInt.lim (k := 28) (Z := q * X1) (by repeat (with_reducible first | assumption | (refine Hid.out ?_; assumption) | apply LimI.drew_ | apply IsInt.drew_ | refine LimI.alloc_ ?_ _ | refine IsInt.alloc_ ?_ _ | (apply LimI.below; rotate_left; assumption) | (apply IsInt.below; rotate_left; assumption))) HQM.out) (IsInt.lim (k := 14) (Z := r) (by repeat (with_reducible first | assumption | (refine Hid.out ?_; assumption) | apply LimI.drew_ | apply IsInt.drew_ | refine LimI.alloc_ ?_ _ | refine IsInt.alloc_ ?_ _ | (apply LimI.below; rotate_left; assumption) | (apply IsInt.below; rotate_left; assumption))) HR.out) (by omega) (by omega)) ?_)); rintro e w14 ⟨v14, rfl, h14, hb14⟩; rw [HE.out] at h14; have hz14 : w13.heap.size ≤ w14.heap.size := (by have hz := hb14.size; (try simp at hz); omega); have k14_a0 := Blk.below (g := w.heap.size) (t := 41) (cs := #[.bool b0, .slice A0 n0 c0]) (by repeat (first | (with_reducible first | assumption | (refine Hid.out ?_; assumption) | apply Blk.drew_) | ((with_reducible refine Blk.new _ _ ?_ _ _) <;> (first | rfl | (simp; done))) | (with_reducible first | refine Blk.alloc_ ?_ _ | apply Blk.own2 | refine Blk.other2 ?_ (by omega) | (apply Blk.below; rotate_left; assumption)))) hb14; have p14_a0 := k14_a0.cell0; have d14_a0 : w.heap.size < w14.heap.size := k14_a0.lt; have q14_a0 := k14_a0.cell1; have K14_a0 := Lib.hid k14_a0; clear k14_a0; have k14_a1 := Blk.below (g := w.heap.size + 1) (t := 41) (cs := #[.bool b1, .slice A1 n1 c1]) (by repeat (first | (with_reducible first | assumption | (refine Hid.out ?_; assumption) | apply Blk.drew_) | ((with_reducible refine Blk.new _ _ ?_ _ _) <;> (first | rfl | (simp; done))) | (with_reducible first | refine Blk.alloc_ ?_ _ | apply Blk.own2 | refine Blk.other2 ?_ (by omega) | (apply Blk.below; rotate_left; assumption)))) hb14; have p14_a1 := k14_a1.cell0; have d14_a1 : w.heap.size + 1 < w14.heap.size := k14_a1.lt; have q14_a1 := k14_a1.cell1; have K14_a1 := Lib.hid k14_a1; clear k14_a1; have k14_q := Blk.below (g := w8.heap.size) (t := 41) (cs := #[.bool bhq8, .slice Ahq8 nhq8 chq8]) (by repeat (first | (with_reducible first | assumption | (refine Hid.out ?_; assumption) | apply Blk.drew_) | ((with_reducible refine Blk.new _ _ ?_ _ _) <;> (first | rfl | (simp; done))) | (with_reducible first | refine Blk.alloc_ ?_ _ | apply Blk.own2 | refine Blk.other2 ?_ (by omega) | (apply Blk.below; rotate_left; assumption)))) hb14; have p14_q := k14_q.cell0; have d14_q : w8.heap.size < w14.heap.size := k14_q.lt; have q14_q := k14_q.cell1; have K14_q := Lib.hid k14_q; clear k14_q; have k14_r := Blk.below (g := w8.heap.size + 1) (t := 41) (cs := #[.bool p, .slice Ahr8 nhr8 chr8]) (by repeat (first | (with_reducible first | assumption | (refine Hid.out ?_; assumption) | apply Blk.drew_) | ((with_reducible refine Blk.new _ _ ?_ _ _) <;> (first | rfl | (simp; done))) | (with_reducible first | refine Blk.alloc_ ?_ _ | apply Blk.own2 | refine Blk.other2 ?_ (by omega) | (apply Blk.below; rotate_left; assumption)))) hb14; have p14_r := k14_r.cell0; have d14_r : w8.heap.size + 1 < w14.heap.size := k14_r.lt; have q14_r := k14_r.cell1; have K14_r := Lib.hid k14_r; clear k14_r; have f0_14 := Lib.hid (show LimI 14 w14 (.agg #[.bool b0, .slice A0 n0 c0]) X0 from (by repeat (with_reducible first | assumption | (refine Hid.out ?_; assumption) | apply LimI.drew_ | apply IsInt.drew_ | refine LimI.alloc_ ?_ _ | refine IsInt.alloc_ ?_ _ | (apply LimI.below; rotate_left; assumption) | (apply IsInt.below; rotate_left; assumption)))); have f1_14 := Lib.hid (show LimI 14 w14 (.agg #[.bool b1, .slice A1 n1 c1]) X1 from (by repeat (with_reducible first | assumption | (refine Hid.out ?_; assumption) | apply LimI.drew_ | apply IsInt.drew_ | refine LimI.alloc_ ?_ _ | refine IsInt.alloc_ ?_ _ | (apply LimI.below; rotate_left; assumption) | (apply IsInt.below; rotate_left; assumption)))); have q_14 := Lib.hid (show IsInt w14 (.agg #[.bool bhq8, .slice Ahq8 nhq8 chq8]) q from (by repeat (with_reducible first | assumption | (refine Hid.out ?_; assumption) | apply LimI.drew_ | apply IsInt.drew_ | refine LimI.alloc_ ?_ _ | refine IsInt.alloc_ ?_ _ | (apply LimI.below; rotate_left; assumption) | (apply IsInt.below; rotate_left; assumption)))); have r_14 := Lib.hid (show IsInt w14 (.agg #[.bool p, .slice Ahr8 nhr8 chr8]) r from (by repeat (with_reducible first | assumption | (refine Hid.out ?_; assumption) | apply LimI.drew_ | apply IsInt.drew_ | refine LimI.alloc_ ?_ _ | refine IsInt.alloc_ ?_ _ | (apply LimI.below; rotate_left; assumption) | (apply IsInt.below; rotate_left; assumption)))); have s_14 := Lib.hid (show IsInt w14 v14 X0 from h14); have HB14 := Lib.hid (show Below w.heap.size w w14 from (by repeat first | exact Below.refl _ _ | exact HB13.out | (with_reducible refine Below.trans ?_ (Below.mono (by with_reducible assumption) ?_)) | (with_reducible refine Below.alloc_ ?_ ?_ _) | (with_reducible refine Below.drew ?_) | (with_reducible refine Below.set2 ?_ ?_) | exact Nat.le_refl _ | omega | focus (simp <;> omega))); have hs14 : w.heap.size ≤ w14.heap.size := HB14.out.size; clear K13_a0 K13_a1 K13_q K13_r f0_13 f1_13 q_13 r_13 u_13 HB13 hb14)
      | (go_at_call 38; have _t := tok2; clear _t tok2; ((with_reducible refine Calls.mono (li_rplain (k := 14) (X := X0) (by repeat (with_reducible first | assumption | (refine Hid.out ?_; assumption) | apply LimI.drew_ | apply IsInt.drew_ | refine LimI.alloc_ ?_ _ | refine IsInt.alloc_ ?_ _ | (apply LimI.below; rotate_left; assumption) | (apply IsInt.below; rotate_left; assumption))) (by omega)) ?_)); rintro e w15 ⟨v15, rfl, h15, hb15⟩; have hz15 : w14.heap.size ≤ w15.heap.size := (by have hz := hb15.size; (try simp at hz); omega); have k15_a0 := Blk.below (g := w.heap.size) (t := 41) (cs := #[.bool b0, .slice A0 n0 c0]) (by repeat (first | (with_reducible first | assumption | (refine Hid.out ?_; assumption) | apply Blk.drew_) | ((with_reducible refine Blk.new _ _ ?_ _ _) <;> (first | rfl | (simp; done))) | (with_reducible first | refine Blk.alloc_ ?_ _ | apply Blk.own2 | refine Blk.other2 ?_ (by omega) | (apply Blk.below; rotate_left; assumption)))) hb15; have p15_a0 := k15_a0.cell0; have d15_a0 : w.heap.size < w15.heap.size := k15_a0.lt; have q15_a0 := k15_a0.cell1; have K15_a0 := Lib.hid k15_a0; clear k15_a0; have k15_a1 := Blk.below (g := w.heap.size + 1) (t := 41) (cs := #[.bool b1, .slice A1 n1 c1]) (by repeat (first | (with_reducible first | assumption | (refine Hid.out ?_; assumption) | apply Blk.drew_) | ((with_reducible refine Blk.new _ _ ?_ _ _) <;> (first | rfl | (simp; done))) | (with_reducible first | refine Blk.alloc_ ?_ _ | apply Blk.own2 | refine Blk.other2 ?_ (by omega) | (apply Blk.below; rotate_left; assumption)))) hb15; have p15_a1 := k15_a1.cell0; have d15_a1 : w.heap.size + 1 < w15.heap.size := k15_a1.lt; have q15_a1 := k15_a1.cell1; have K15_a1 := Lib.hid k15_a1; clear k15_a1; have k15_q := Blk.below (g := w8.heap.size) (t := 41) (cs := #[.bool bhq8, .slice Ahq8 nhq8 chq8]) (by repeat (first | (with_reducible first | assumption | (refine Hid.out ?_; assumption) | apply Blk.drew_) | ((with_reducible refine Blk.new _ _ ?_ _ _) <;> (first | rfl | (simp; done))) | (with_reducible first | refine Blk.alloc_ ?_ _ | apply Blk.own2 | refine Blk.other2 ?_ (by omega) | (apply Blk.below; rotate_left; assumption)))) hb15; have p15_q := k15_q.cell0; have d15_q : w8.heap.size < w15.heap.size := k15_q.lt; have q15_q := k15_q.cell1; have K15_q := Lib.hid k15_q; clear k15_q; have k15_r := Blk.below (g := w8.heap.size + 1) (t := 41) (cs := #[.bool p, .slice Ahr8 nhr8 chr8]) (by repeat (first | (with_reducible first | assumption | (refine Hid.out ?_; assumption) | apply Blk.drew_) | ((with_reducible refine Blk.new _ _ ?_ _ _) <;> (first | rfl | (simp; done))) | (with_reducible first | refine Blk.alloc_ ?_ _ | apply Blk.own2 | refine Blk.other2 ?_ (by omega) | (apply Blk.below; rotate_left; assumption)))) hb15; have p15_r := k15_r.cell0; have d15_r : w8.heap.size + 1 < w15.heap.size := k15_r.lt; have q15_r := k15_r.cell1; have K15_r := Lib.hid k15_r; clear k15_r; have f0_15 := Lib.hid (show LimI 14 w15 (.agg #[.bool b0, .slice A0 n0 c0]) X0 from (by repeat (with_reducible first | assumption | (refine Hid.out ?_; assumption) | apply LimI.drew_ | apply IsInt.drew_ | refine LimI.alloc_ ?_ _ | refine IsInt.alloc_ ?_ _ | (apply LimI.below; rotate_left; assumption) | (apply IsInt.below; rotate_left; assumption)))); have f1_15 := Lib.hid (show LimI 14 w15 (.agg #[.bool b1, .slice A1 n1 c1]) X1 from (by repeat (with_reducible first | assumption | (refine Hid.out ?_; assumption) | apply LimI.drew_ | apply IsInt.drew_ | refine LimI.alloc_ ?_ _ | refine IsInt.alloc_ ?_ _ | (apply LimI.below; rotate_left; assumption) | (apply IsInt.below; rotate_left; assumption)))); have q_15 := Lib.hid (show IsInt w15 (.agg #[.bool bhq8, .slice Ahq8 nhq8 chq8]) q from (by repeat (with_reducible first | assumption | (refine Hid.out ?_; assumption) | apply LimI.drew_ | apply IsInt.drew_ | refine LimI.alloc_ ?_ _ | refine IsInt.alloc_ ?_ _ | (apply LimI.below; rotate_left; assumption) | (apply IsInt.below; rotate_left; assumption)))); have r_15 := Lib.hid (show IsInt w15 (.agg #[.bool p, .slice Ahr8 nhr8 chr8]) r from (by repeat (with_reducible first | assumption | (refine Hid.out ?_; assumption) | apply LimI.drew_ | apply IsInt.drew_ | refine LimI.alloc_ ?_ _ | refine IsInt.alloc_ ?_ _ | (apply LimI.below; rotate_left; assumption) | (apply IsInt.below; rotate_left; assumption)))); have s_15 := Lib.hid (show IsInt w15 v14 X0 from (by repeat (with_reducible first | assumption | (refine Hid.out ?_; assumption) | apply LimI.drew_ | apply IsInt.drew_ | refine LimI.alloc_ ?_ _ | refine IsInt.alloc_ ?_ _ | (apply LimI.below; rotate_left; assumption) | (apply IsInt.below; rotate_left; assumption)))); have v_15 := Lib.hid (show IsInt w15 v15 X0 from h15); have HB15 := Lib.hid (show Below w.heap.size w w15 from (by repeat first | exact Below.refl _ _ | exact HB14.out | (with_reducible refine Below.trans ?_ (Below.mono (by with_reducible assumption) ?_)) | (with_reducible refine Below.alloc_ ?_ ?_ _) | (with_reducible refine Below.drew ?_) | (with_reducible refine Below.set2 ?_ ?_) | exact Nat.le_refl _ | omega | focus (simp <;> omega))); have hs15 : w.heap.size ≤ w15.heap.size := HB15.out.size; clear K14_a0 K14_a1 K14_q K14_r f0_14 f1_14 q_14 r_14 s_14 HB14 hb15)
      | (go_at_call 36; have _t := tok3; clear _t tok3; ((with_reducible refine Calls.mono (isInt_same (k := 14) (X := X0) (by repeat (with_reducible first | assumption | (refine Hid.out ?_; assumption) | apply LimI.drew_ | apply IsInt.drew_ | refine LimI.alloc_ ?_ _ | refine IsInt.alloc_ ?_ _ | (apply LimI.below; rotate_left; assumption) | (apply IsInt.below; rotate_left; assumption))) (by repeat (with_reducible first | assumption | (refine Hid.out ?_; assumption) | apply LimI.drew_ | apply IsInt.drew_ | refine LimI.alloc_ ?_ _ | refine IsInt.alloc_ ?_ _ | (apply LimI.below; rotate_left; assumption) | (apply IsInt.below; rotate_left; assumption))) HX0.out (by omega)) ?_)); rintro e w16 ⟨rfl, hb16⟩; have hz16 : w15.heap.size ≤ w16.heap.size := (by have hz := hb16.size; (try simp at hz); omega); have k16_a0 := Blk.below (g := w.heap.size) (t := 41) (cs := #[.bool b0, .slice A0 n0 c0]) (by repeat (first | (with_reducible first | assumption | (refine Hid.out ?_; assumption) | apply Blk.drew_) | ((with_reducible refine Blk.new _ _ ?_ _ _) <;> (first | rfl | (simp; done))) | (with_reducible first | refine Blk.alloc_ ?_ _ | apply Blk.own2 | refine Blk.other2 ?_ (by omega) | (apply Blk.below; rotate_left; assumption)))) hb16; have p16_a0 := k16_a0.cell0; have d16_a0 : w.heap.size < w16.heap.size := k16_a0.lt; have q16_a0 := k16_a0.cell1; have K16_a0 := Lib.hid k16_a0; clear k16_a0; have k16_a1 := Blk.below (g := w.heap.size + 1) (t := 41) (cs := #[.bool b1, .slice A1 n1 c1]) (by repeat (first | (with_reducible first | assumption | (refine Hid.out ?_; assumption) | apply Blk.drew_) | ((with_reducible refine Blk.new _ _ ?_ _ _) <;> (first | rfl | (simp; done))) | (with_reducible first | refine Blk.alloc_ ?_ _ | apply Blk.own2 | refine Blk.other2 ?_ (by omega) | (apply Blk.below; rotate_left; assumption)))) hb16; have p16_a1 := k16_a1.cell0; have d16_a1 : w.heap.size + 1 < w16.heap.size := k16_a1.lt; have q16_a1 := k16_a1.cell1; have K16_a1 := Lib.hid k16_a1; clear k16_a1; have k16_q := Blk.below (g := w8.heap.size) (t := 41) (cs := #[.bool bhq8, .slice Ahq8 nhq8 chq8]) (by repeat (first | (with_reducible first | assumption | (refine Hid.out ?_; assumption) | apply Blk.drew_) | ((with_reducible refine Blk.new _ _ ?_ _ _) <;> (first | rfl | (simp; done))) | (with_reducible first | refine Blk.alloc_ ?_ _ | apply Blk.own2 | refine Blk.other2 ?_ (by omega) | (apply Blk.below; rotate_left; assumption)))) hb16; have p16_q := k16_q.cell0; have d16_q : w8.heap.size < w16.heap.size := k16_q.lt; have q16_q := k16_q.cell1; have K16_q := Lib.hid k16_q; clear k16_q; have k16_r := Blk.below (g := w8.heap.size + 1) (t := 41) (cs := #[.bool p, .slice Ahr8 nhr8 chr8]) (by repeat (first | (with_reducible first | assumption | (refine Hid.out ?_; assumption) | apply Blk.drew_) | ((with_reducible refine Blk.new _ _ ?_ _ _) <;> (first | rfl | (simp; done))) | (with_reducible first | refine Blk.alloc_ ?_ _ | apply Blk.own2 | refine Blk.other2 ?_ (by omega) | (apply Blk.below; rotate_left; assumption)))) hb16; have p16_r := k16_r.cell0; have d16_r : w8.heap.size + 1 < w16.heap.size := k16_r.lt; have q16_r := k16_r.cell1; have K16_r := Lib.hid k16_r; clear k16_r; have f0_16 := Lib.hid (show LimI 14 w16 (.agg #[.bool b0, .slice A0 n0 c0]) X0 from (by repeat (with_reducible first | assumption | (refine Hid.out ?_; assumption) | apply LimI.drew_ | apply IsInt.drew_ | refine LimI.alloc_ ?_ _ | refine IsInt.alloc_ ?_ _ | (apply LimI.below; rotate_left; assumption) | (apply IsInt.below; rotate_left; assumption)))); have f1_16 := Lib.hid (show LimI 14 w16 (.agg #[.bool b1, .slice A1 n1 c1]) X1 from (by repeat (with_reducible first | assumption | (refine Hid.out ?_; assumption) | apply LimI.drew_ | apply IsInt.drew_ | refine LimI.alloc_ ?_ _ | refine IsInt.alloc_ ?_ _ | (apply LimI.below; rotate_left; assumption) | (apply IsInt.below; rotate_left; assumption)))); have q_16 := Lib.hid (show IsInt w16 (.agg #[.bool bhq8, .slice Ahq8 nhq8 chq8]) q from (by repeat (with_reducible first | assumption | (refine Hid.out ?_; assumption) | apply LimI.drew_ | apply IsInt.drew_ | refine LimI.alloc_ ?_ _ | refine IsInt.alloc_ ?_ _ | (apply LimI.below; rotate_left; assumption) | (apply IsInt.below; rotate_left; assumption)))); have r_16 := Lib.hid (show IsInt w16 (.agg #[.bool p, .slice Ahr8 nhr8 chr8]) r from (by repeat (with_reducible first | assumption | (refine Hid.out ?_; assumption) | apply LimI.drew_ | apply IsInt.drew_ | refine LimI.alloc_ ?_ _ | refine IsInt.alloc_ ?_ _ | (apply LimI.below; rotate_left; assumption) | (apply IsInt.below; rotate_left; assumption)))); have s_16 := Lib.hid (show IsInt w16 v14 X0 from (by repeat (with_reducible first | assumption | (refine Hid.out ?_; assumption) | apply LimI.drew_ | apply IsInt.drew_ | refine LimI.alloc_ ?_ _ | refine IsInt.alloc_ ?_ _ | (apply LimI.below; rotate_left; assumption) | (apply IsInt.below; rotate_left; assumption)))); have v_16 := Lib.hid (show IsInt w16 v15 X0 from (by repeat (with_reducible first | assumption | (refine Hid.out ?_; assumption) | apply LimI.drew_ | apply IsInt.drew_ | refine LimI.alloc_ ?_ _ | refine IsInt.alloc_ ?_ _ | (apply LimI.below; rotate_left; assumption) | (apply IsInt.below; rotate_left; assumption)))); have HB16 := Lib.hid (show Below w.heap.size w w16 from (by repeat first | exact Below.refl _ _ | exact HB15.out | (with_reducible refine Below.trans ?_ (Below.mono (by with_reducible assumption) ?_)) | (with_reducible refine Below.alloc_ ?_ ?_ _) | (with_reducible refine Below.drew ?_) | (with_reducible refine Below.set2 ?_ ?_) | exact Nat.le_refl _ | omega | focus (simp <;> omega))); have hs16 : w.heap.size ≤ w16.heap.size := HB16.out.size; clear K15_a0 K15_a1 K15_q K15_r f0_15 f1_15 q_15 r_15 s_15 v_15 HB15 hb16)
      | (go_at_call 38; have _t := tok4; clear _t tok4; ((with_reducible refine Calls.mono (li_rplain (k := 14) (X := X1) (by repeat (with_reducible first | assumption | (refine Hid.out ?_; assumption) | apply LimI.drew_ | apply IsInt.drew_ | refine LimI.alloc_ ?_ _ | refine IsInt.alloc_ ?_ _ | (apply LimI.below; rotate_left; assumption) | (apply IsInt.below; rotate_left; assumption))) (by omega)) ?_)); rintro e w17 ⟨v17, rfl, h17, hb17⟩; obtain ⟨bh17, Ah17, nh17, ch17, rfl, sh17, zh17, h17⟩ := h17.form; rw [HP.out] at sh17; replace sh17 := sh17.symm; subst sh17; clear zh17; have hz17 : w16.heap.size ≤ w17.heap.size := (by have hz := hb17.size; (try simp at hz); omega); have k17_a0 := Blk.below (g := w.heap.size) (t := 41) (cs := #[.bool b0, .slice A0 n0 c0]) (by repeat (first | (with_reducible first | assumption | (refine Hid.out ?_; assumption) | apply Blk.drew_) | ((with_reducible refine Blk.new _ _ ?_ _ _) <;> (first | rfl | (simp; done))) | (with_reducible first | refine Blk.alloc_ ?_ _ | apply Blk.own2 | refine Blk.other2 ?_ (by omega) | (apply Blk.below; rotate_left; assumption)))) hb17; have p17_a0 := k17_a0.cell0; have d17_a0 : w.heap.size < w17.heap.size := k17_a0.lt; have q17_a0 := k17_a0.cell1; have K17_a0 := Lib.hid k17_a0; clear k17_a0; have k17_a1 := Blk.below (g := w.heap.size + 1) (t := 41) (cs := #[.bool b1, .slice A1 n1 c1]) (by repeat (first | (with_reducible first | assumption | (refine Hid.out ?_; assumption) | apply Blk.drew_) | ((with_reducible refine Blk.new _ _ ?_ _ _) <;> (first | rfl | (simp; done))) | (with_reducible first | refine Blk.alloc_ ?_ _ | apply Blk.own2 | refine Blk.other2 ?_ (by omega) | (apply Blk.below; rotate_left; assumption)))) hb17; have p17_a1 := k17_a1.cell0; have d17_a1 : w.heap.size + 1 < w17.heap.size := k17_a1.lt; have q17_a1 := k17_a1.cell1; have K17_a1 := Lib.hid k17_a1; clear k17_a1; have k17_q := Blk.below (g := w8.heap.size) (t := 41) (cs := #[.bool bhq8, .slice Ahq8 nhq8 chq8]) (by repeat (first | (with_reducible first | assumption | (refine Hid.out ?_; assumption) | apply Blk.drew_) | ((with_reducible refine Blk.new _ _ ?_ _ _) <;> (first | rfl | (simp; done))) | (with_reducible first | refine Blk.alloc_ ?_ _ | apply Blk.own2 | refine Blk.other2 ?_ (by omega) | (apply Blk.below; rotate_left; assumption)))) hb17; have p17_q := k17_q.cell0; have d17_q : w8.heap.size < w17.heap.size := k17_q.lt; have q17_q := k17_q.cell1; have K17_q := Lib.hid k17_q; clear k17_q; have k17_r := Blk.below (g := w8.heap.size + 1) (t := 41) (cs := #[.bool p, .slice Ahr8 nhr8 chr8]) (by repeat (first | (with_reducible first | assumption | (refine Hid.out ?_; assumption) | apply Blk.drew_) | ((with_reducible refine Blk.new _ _ ?_ _ _) <;> (first | rfl | (simp; done))) | (with_reducible first | refine Blk.alloc_ ?_ _ | apply Blk.own2 | refine Blk.other2 ?_ (by omega) | (apply Blk.below; rotate_left; assumption)))) hb17; have p17_r := k17_r.cell0; have d17_r : w8.heap.size + 1 < w17.heap.size := k17_r.lt; have q17_r := k17_r.cell1; have K17_r := Lib.hid k17_r; clear k17_r; have f0_17 := Lib.hid (show LimI 14 w17 (.agg #[.bool b0, .slice A0 n0 c0]) X0 from (by repeat (with_reducible first | assumption | (refine Hid.out ?_; assumption) | apply LimI.drew_ | apply IsInt.drew_ | refine LimI.alloc_ ?_ _ | refine IsInt.alloc_ ?_ _ | (apply LimI.below; rotate_left; assumption) | (apply IsInt.below; rotate_left; assumption)))); have f1_17 := Lib.hid (show LimI 14 w17 (.agg #[.bool b1, .slice A1 n1 c1]) X1 from (by repeat (with_reducible first | assumption | (refine Hid.out ?_; assumption) | apply LimI.drew_ | apply IsInt.drew_ | refine LimI.alloc_ ?_ _ | refine IsInt.alloc_ ?_ _ | (apply LimI.below; rotate_left; assumption) | (apply IsInt.below; rotate_left; assumption)))); have q_17 := Lib.hid (show IsInt w17 (.agg #[.bool bhq8, .slice Ahq8 nhq8 chq8]) q from (by repeat (with_reducible first | assumption | (refine Hid.out ?_; assumption) | apply LimI.drew_ | apply IsInt.drew_ | refine LimI.alloc_ ?_ _ | refine IsInt.alloc_ ?_ _ | (apply LimI.below; rotate_left; assumption) | (apply IsInt.below; rotate_left; assumption)))); have r_17 := Lib.hid (show IsInt w17 (.agg #[.bool p, .slice Ahr8 nhr8 chr8]) r from (by repeat (with_reducible first | assumption | (refine Hid.out ?_; assumption) | apply LimI.drew_ | apply IsInt.drew_ | refine LimI.alloc_ ?_ _ | refine IsInt.alloc_ ?_ _ | (apply LimI.below; rotate_left; assumption) | (apply IsInt.below; rotate_left; assumption)))); have HB17 := Lib.hid (show Below w.heap.size w w17 from (by repeat first | exact Below.refl _ _ | exact HB16.out | (with_reducible refine Below.trans ?_ (Below.mono (by with_reducible assumption) ?_)) | (with_reducible refine Below.alloc_ ?_ ?_ _) | (with_reducible refine Below.drew ?_) | (with_reducible refine Below.set2 ?_ ?_) | exact Nat.le_refl _ | omega | focus (simp <;> omega))); have hs17 : w.heap.size ≤ w17.heap.size := HB17.out.size; clear K16_a0 K16_a1 K16_q K16_r f0_16 f1_16 q_16 r_16 s_16 v_16 HB16 hb17)
      | (go_at_call 52; have _t := tok5; clear _t tok5; ((with_reducible refine Calls.mono (rCmp_less (k := 14) (m := 14) (N := (r : Int).natAbs) (M := X1.natAbs) HRL.out (IsNat.lim (k := 14) (IsInt.mag (b := p) (by repeat (with_reducible first | assumption | (refine Hid.out ?_; assumption) | apply LimI.drew_ | apply IsInt.drew_ | refine LimI.alloc_ ?_ _ | refine IsInt.alloc_ ?_ _ | (apply LimI.below; rotate_left; assumption) | (apply IsInt.below; rotate_left; assumption)))) HR.out) (LimI.mag (b := b1) (by repeat (with_reducible first | assumption | (refine Hid.out ?_; assumption) | apply LimI.drew_ | apply IsInt.drew_ | refine LimI.alloc_ ?_ _ | refine IsInt.alloc_ ?_ _ | (apply LimI.below; rotate_left; assumption) | (apply IsInt.below; rotate_left; assumption)))) (by omega) (by omega)) ?_)); rintro e w18 ⟨rfl, hb18⟩; have hz18 : w17.heap.size ≤ w18.heap.size := (by have hz := hb18.size; (try simp at hz); omega); have k18_a0 := Blk.below (g := w.heap.size) (t := 41) (cs := #[.bool b0, .slice A0 n0 c0]) (by repeat (first | (with_reducible first | assumption | (refine Hid.out ?_; assumption) | apply Blk.drew_) | ((with_reducible refine Blk.new _ _ ?_ _ _) <;> (first | rfl | (simp; done))) | (with_reducible first | refine Blk.alloc_ ?_ _ | apply Blk.own2 | refine Blk.other2 ?_ (by omega) | (apply Blk.below; rotate_left; assumption)))) hb18; have p18_a0 := k18_a0.cell0; have d18_a0 : w.heap.size < w18.heap.size := k18_a0.lt; have q18_a0 := k18_a0.cell1; have K18_a0 := Lib.hid k18_a0; clear k18_a0; have k18_a1 := Blk.below (g := w.heap.size + 1) (t := 41) (cs := #[.bool b1, .slice A1 n1 c1]) (by repeat (first | (with_reducible first | assumption | (refine Hid.out ?_; assumption) | apply Blk.drew_) | ((with_reducible refine Blk.new _ _ ?_ _ _) <;> (first | rfl | (simp; done))) | (with_reducible first | refine Blk.alloc_ ?_ _ | apply Blk.own2 | refine Blk.other2 ?_ (by omega) | (apply Blk.below; rotate_left; assumption)))) hb18; have p18_a1 := k18_a1.cell0; have d18_a1 : w.heap.size + 1 < w18.heap.size := k18_a1.lt; have q18_a1 := k18_a1.cell1; have K18_a1 := Lib.hid k18_a1; clear k18_a1; have k18_q := Blk.below (g := w8.heap.size) (t := 41) (cs := #[.bool bhq8, .slice Ahq8 nhq8 chq8]) (by repeat (first | (with_reducible first | assumption | (refine Hid.out ?_; assumption) | apply Blk.drew_) | ((with_reducible refine Blk.new _ _ ?_ _ _) <;> (first | rfl | (simp; done))) | (with_reducible first | refine Blk.alloc_ ?_ _ | apply Blk.own2 | refine Blk.other2 ?_ (by omega) | (apply Blk.below; rotate_left; assumption)))) hb18; have p18_q := k18_q.cell0; have d18_q : w8.heap.size < w18.heap.size := k18_q.lt; have q18_q := k18_q.cell1; have K18_q := Lib.hid k18_q; clear k18_q; have k18_r := Blk.below (g := w8.heap.size + 1) (t := 41) (cs := #[.bool p, .slice Ahr8 nhr8 chr8]) (by repeat (first | (with_reducible first | assumption | (refine Hid.out ?_; assumption) | apply Blk.drew_) | ((with_reducible refine Blk.new _ _ ?_ _ _) <;> (first | rfl | (simp; done))) | (with_reducible first | refine Blk.alloc_ ?_ _ | apply Blk.own2 | refine Blk.other2 ?_ (by omega) | (apply Blk.below; rotate_left; assumption)))) hb18; have p18_r := k18_r.cell0; have d18_r : w8.heap.size + 1 < w18.heap.size := k18_r.lt; have q18_r := k18_r.cell1; have K18_r := Lib.hid k18_r; clear k18_r; have f0_18 := Lib.hid (show LimI 14 w18 (.agg #[.bool b0, .slice A0 n0 c0]) X0 from (by repeat (with_reducible first | assumption | (refine Hid.out ?_; assumption) | apply LimI.drew_ | apply IsInt.drew_ | refine LimI.alloc_ ?_ _ | refine IsInt.alloc_ ?_ _ | (apply LimI.below; rotate_left; assumption) | (apply IsInt.below; rotate_left; assumption)))); have f1_18 := Lib.hid (show LimI 14 w18 (.agg #[.bool b1, .slice A1 n1 c1]) X1 from (by repeat (with_reducible first | assumption | (refine Hid.out ?_; assumption) | apply LimI.drew_ | apply IsInt.drew_ | refine LimI.alloc_ ?_ _ | refine IsInt.alloc_ ?_ _ | (apply LimI.below; rotate_left; assumption) | (apply IsInt.below; rotate_left; assumption)))); have q_18 := Lib.hid (show IsInt w18 (.agg #[.bool bhq8, .slice Ahq8 nhq8 chq8]) q from (by repeat (with_reducible first | assumption | (refine Hid.out ?_; assumption) | apply LimI.drew_ | apply IsInt.drew_ | refine LimI.alloc_ ?_ _ | refine IsInt.alloc_ ?_ _ | (apply LimI.below; rotate_left; assumption) | (apply IsInt.below; rotate_left; assumption)))); have r_18 := Lib.hid (show IsInt w18 (.agg #[.bool p, .slice Ahr8 nhr8 chr8]) r from (by repeat (with_reducible first | assumption | (refine Hid.out ?_; assumption) | apply LimI.drew_ | apply IsInt.drew_ | refine LimI.alloc_ ?_ _ | refine IsInt.alloc_ ?_ _ | (apply LimI.below; rotate_left; assumption) | (apply IsInt.below; rotate_left; assumption)))); have HB18 := Lib.hid (show Below w.heap.size w w18 from (by repeat first | exact Below.refl _ _ | exact HB17.out | (with_reducible refine Below.trans ?_ (Below.mono (by with_reducible assumption) ?_)) | (with_reducible refine Below.alloc_ ?_ ?_ _) | (with_reducible refine Below.drew ?_) | (with_reducible refine Below.set2 ?_ ?_) | exact Nat.le_refl _ | omega | focus (simp <;> omega))); have hs18 : w.heap.size ≤ w18.heap.size := HB18.out.size; clear K17_a0 K17_a1 K17_q K17_r f0_17 f1_17 q_17 r_17 HB17 hb18))
  go_wp2
  go_ret
  exact ⟨(by first | (simp; done) | rfl), HB18.out⟩

set_option maxHeartbeats 4000000 in
theorem wholeSmall_out (nn : Int) (b0 : Bool) (A0 : Option Addr) (n0 c0 : Nat) (b1 : Bool) (A1 : Option Addr) (n1 c1 : Nat) (w : World) (h0 : n0 ≤ 9223372036854775807) (h1 : n1 ≤ 9223372036854775807)  (h : 14 < n0 ∨ 14 < n1) :
    Calls Try.prog 7 #[.int .i64 nn, .agg #[.bool b0, .slice A0 n0 c0], .agg #[.bool b1, .slice A1 n1 c1]] w fun e w' => e = .returned (.bool true) ∧ Below w.heap.size w w' := by
  have H : Hid (((false = decide ((n0 : Int) ≤ 14))) ∨ ((true = decide ((n0 : Int) ≤ 14)) ∧ (false = decide ((n1 : Int) ≤ 14)))) := by
    by_cases x0 : 14 < n0
    · exact .inl (decide_eq_false (by omega)).symm
    exact .inr (⟨(decide_eq_true (by omega)).symm, (decide_eq_false (by omega)).symm⟩)
  clear h
  rcases H.out with g0 | ⟨g0, g1⟩
  · have G0 := Lib.hid g0
    clear H g0
    go_enter Try.func7, Try.ntmps7
    go_wp2_with fail
    refine Calls.mono (awake2 _) ?_
    rintro e w1 ⟨rfl, hb1⟩
    have hz1 : w.heap.size + 1 + 1 ≤ w1.heap.size := (by have hz := hb1.size; (try simp at hz); omega)
    have k1_a0 := Blk.below (g := w.heap.size) (t := 41) (cs := #[.bool b0, .slice A0 n0 c0]) (by repeat (first | (with_reducible first | assumption | (refine Hid.out ?_; assumption) | apply Blk.drew_) | ((with_reducible refine Blk.new _ _ ?_ _ _) <;> (first | rfl | (simp; done))) | (with_reducible first | refine Blk.alloc_ ?_ _ | apply Blk.own2 | refine Blk.other2 ?_ (by omega) | (apply Blk.below; rotate_left; assumption)))) hb1
    have p1_a0 := k1_a0.cell0
    have d1_a0 : w.heap.size < w1.heap.size := k1_a0.lt
    have q1_a0 := k1_a0.cell1
    have K1_a0 := Lib.hid k1_a0; clear k1_a0
    have k1_a1 := Blk.below (g := w.heap.size + 1) (t := 41) (cs := #[.bool b1, .slice A1 n1 c1]) (by repeat (first | (with_reducible first | assumption | (refine Hid.out ?_; assumption) | apply Blk.drew_) | ((with_reducible refine Blk.new _ _ ?_ _ _) <;> (first | rfl | (simp; done))) | (with_reducible first | refine Blk.alloc_ ?_ _ | apply Blk.own2 | refine Blk.other2 ?_ (by omega) | (apply Blk.below; rotate_left; assumption)))) hb1
    have p1_a1 := k1_a1.cell0
    have d1_a1 : w.heap.size + 1 < w1.heap.size := k1_a1.lt
    have q1_a1 := k1_a1.cell1
    have K1_a1 := Lib.hid k1_a1; clear k1_a1
    have HB1 := Lib.hid (show Below w.heap.size w w1 from (by repeat first | exact Below.refl _ _ | (with_reducible refine Below.trans ?_ (Below.mono (by with_reducible assumption) ?_)) | (with_reducible refine Below.alloc_ ?_ ?_ _) | (with_reducible refine Below.drew ?_) | (with_reducible refine Below.set2 ?_ ?_) | exact Nat.le_refl _ | omega | focus (simp <;> omega)))
    have hs1 : w.heap.size ≤ w1.heap.size := HB1.out.size
    clear hb1
    go_wp2_with fail
    refine Calls.mono (few_any b0 A0 n0 c0 _ false G0.out) ?_
    rintro e w2 ⟨rfl, hb2⟩
    have hz2 : w1.heap.size ≤ w2.heap.size := (by have hz := hb2.size; (try simp at hz); omega)
    have k2_a0 := Blk.below (g := w.heap.size) (t := 41) (cs := #[.bool b0, .slice A0 n0 c0]) (by repeat (first | (with_reducible first | assumption | (refine Hid.out ?_; assumption) | apply Blk.drew_) | ((with_reducible refine Blk.new _ _ ?_ _ _) <;> (first | rfl | (simp; done))) | (with_reducible first | refine Blk.alloc_ ?_ _ | apply Blk.own2 | refine Blk.other2 ?_ (by omega) | (apply Blk.below; rotate_left; assumption)))) hb2
    have p2_a0 := k2_a0.cell0
    have d2_a0 : w.heap.size < w2.heap.size := k2_a0.lt
    have q2_a0 := k2_a0.cell1
    have K2_a0 := Lib.hid k2_a0; clear k2_a0
    have k2_a1 := Blk.below (g := w.heap.size + 1) (t := 41) (cs := #[.bool b1, .slice A1 n1 c1]) (by repeat (first | (with_reducible first | assumption | (refine Hid.out ?_; assumption) | apply Blk.drew_) | ((with_reducible refine Blk.new _ _ ?_ _ _) <;> (first | rfl | (simp; done))) | (with_reducible first | refine Blk.alloc_ ?_ _ | apply Blk.own2 | refine Blk.other2 ?_ (by omega) | (apply Blk.below; rotate_left; assumption)))) hb2
    have p2_a1 := k2_a1.cell0
    have d2_a1 : w.heap.size + 1 < w2.heap.size := k2_a1.lt
    have q2_a1 := k2_a1.cell1
    have K2_a1 := Lib.hid k2_a1; clear k2_a1
    have HB2 := Lib.hid (show Below w.heap.size w w2 from (by repeat first | exact Below.refl _ _ | exact HB1.out | (with_reducible refine Below.trans ?_ (Below.mono (by with_reducible assumption) ?_)) | (with_reducible refine Below.alloc_ ?_ ?_ _) | (with_reducible refine Below.drew ?_) | (with_reducible refine Below.set2 ?_ ?_) | exact Nat.le_refl _ | omega | focus (simp <;> omega)))
    have hs2 : w.heap.size ≤ w2.heap.size := HB2.out.size
    clear K1_a0 K1_a1 HB1 hb2
    go_wp2
    go_ret
    exact ⟨rfl, HB2.out⟩
  · have G0 := Lib.hid g0
    have G1 := Lib.hid g1
    clear H g0 g1
    go_enter Try.func7, Try.ntmps7
    go_wp2_with fail
    refine Calls.mono (awake2 _) ?_
    rintro e w1 ⟨rfl, hb1⟩
    have hz1 : w.heap.size + 1 + 1 ≤ w1.heap.size := (by have hz := hb1.size; (try simp at hz); omega)
    have k1_a0 := Blk.below (g := w.heap.size) (t := 41) (cs := #[.bool b0, .slice A0 n0 c0]) (by repeat (first | (with_reducible first | assumption | (refine Hid.out ?_; assumption) | apply Blk.drew_) | ((with_reducible refine Blk.new _ _ ?_ _ _) <;> (first | rfl | (simp; done))) | (with_reducible first | refine Blk.alloc_ ?_ _ | apply Blk.own2 | refine Blk.other2 ?_ (by omega) | (apply Blk.below; rotate_left; assumption)))) hb1
    have p1_a0 := k1_a0.cell0
    have d1_a0 : w.heap.size < w1.heap.size := k1_a0.lt
    have q1_a0 := k1_a0.cell1
    have K1_a0 := Lib.hid k1_a0; clear k1_a0
    have k1_a1 := Blk.below (g := w.heap.size + 1) (t := 41) (cs := #[.bool b1, .slice A1 n1 c1]) (by repeat (first | (with_reducible first | assumption | (refine Hid.out ?_; assumption) | apply Blk.drew_) | ((with_reducible refine Blk.new _ _ ?_ _ _) <;> (first | rfl | (simp; done))) | (with_reducible first | refine Blk.alloc_ ?_ _ | apply Blk.own2 | refine Blk.other2 ?_ (by omega) | (apply Blk.below; rotate_left; assumption)))) hb1
    have p1_a1 := k1_a1.cell0
    have d1_a1 : w.heap.size + 1 < w1.heap.size := k1_a1.lt
    have q1_a1 := k1_a1.cell1
    have K1_a1 := Lib.hid k1_a1; clear k1_a1
    have HB1 := Lib.hid (show Below w.heap.size w w1 from (by repeat first | exact Below.refl _ _ | (with_reducible refine Below.trans ?_ (Below.mono (by with_reducible assumption) ?_)) | (with_reducible refine Below.alloc_ ?_ ?_ _) | (with_reducible refine Below.drew ?_) | (with_reducible refine Below.set2 ?_ ?_) | exact Nat.le_refl _ | omega | focus (simp <;> omega)))
    have hs1 : w.heap.size ≤ w1.heap.size := HB1.out.size
    clear hb1
    go_wp2_with fail
    refine Calls.mono (few_any b0 A0 n0 c0 _ true G0.out) ?_
    rintro e w2 ⟨rfl, hb2⟩
    have hz2 : w1.heap.size ≤ w2.heap.size := (by have hz := hb2.size; (try simp at hz); omega)
    have k2_a0 := Blk.below (g := w.heap.size) (t := 41) (cs := #[.bool b0, .slice A0 n0 c0]) (by repeat (first | (with_reducible first | assumption | (refine Hid.out ?_; assumption) | apply Blk.drew_) | ((with_reducible refine Blk.new _ _ ?_ _ _) <;> (first | rfl | (simp; done))) | (with_reducible first | refine Blk.alloc_ ?_ _ | apply Blk.own2 | refine Blk.other2 ?_ (by omega) | (apply Blk.below; rotate_left; assumption)))) hb2
    have p2_a0 := k2_a0.cell0
    have d2_a0 : w.heap.size < w2.heap.size := k2_a0.lt
    have q2_a0 := k2_a0.cell1
    have K2_a0 := Lib.hid k2_a0; clear k2_a0
    have k2_a1 := Blk.below (g := w.heap.size + 1) (t := 41) (cs := #[.bool b1, .slice A1 n1 c1]) (by repeat (first | (with_reducible first | assumption | (refine Hid.out ?_; assumption) | apply Blk.drew_) | ((with_reducible refine Blk.new _ _ ?_ _ _) <;> (first | rfl | (simp; done))) | (with_reducible first | refine Blk.alloc_ ?_ _ | apply Blk.own2 | refine Blk.other2 ?_ (by omega) | (apply Blk.below; rotate_left; assumption)))) hb2
    have p2_a1 := k2_a1.cell0
    have d2_a1 : w.heap.size + 1 < w2.heap.size := k2_a1.lt
    have q2_a1 := k2_a1.cell1
    have K2_a1 := Lib.hid k2_a1; clear k2_a1
    have HB2 := Lib.hid (show Below w.heap.size w w2 from (by repeat first | exact Below.refl _ _ | exact HB1.out | (with_reducible refine Below.trans ?_ (Below.mono (by with_reducible assumption) ?_)) | (with_reducible refine Below.alloc_ ?_ ?_ _) | (with_reducible refine Below.drew ?_) | (with_reducible refine Below.set2 ?_ ?_) | exact Nat.le_refl _ | omega | focus (simp <;> omega)))
    have hs2 : w.heap.size ≤ w2.heap.size := HB2.out.size
    clear K1_a0 K1_a1 HB1 hb2
    go_wp2_with fail
    refine Calls.mono (few_any b1 A1 n1 c1 _ false G1.out) ?_
    rintro e w3 ⟨rfl, hb3⟩
    have hz3 : w2.heap.size ≤ w3.heap.size := (by have hz := hb3.size; (try simp at hz); omega)
    have k3_a0 := Blk.below (g := w.heap.size) (t := 41) (cs := #[.bool b0, .slice A0 n0 c0]) (by repeat (first | (with_reducible first | assumption | (refine Hid.out ?_; assumption) | apply Blk.drew_) | ((with_reducible refine Blk.new _ _ ?_ _ _) <;> (first | rfl | (simp; done))) | (with_reducible first | refine Blk.alloc_ ?_ _ | apply Blk.own2 | refine Blk.other2 ?_ (by omega) | (apply Blk.below; rotate_left; assumption)))) hb3
    have p3_a0 := k3_a0.cell0
    have d3_a0 : w.heap.size < w3.heap.size := k3_a0.lt
    have q3_a0 := k3_a0.cell1
    have K3_a0 := Lib.hid k3_a0; clear k3_a0
    have k3_a1 := Blk.below (g := w.heap.size + 1) (t := 41) (cs := #[.bool b1, .slice A1 n1 c1]) (by repeat (first | (with_reducible first | assumption | (refine Hid.out ?_; assumption) | apply Blk.drew_) | ((with_reducible refine Blk.new _ _ ?_ _ _) <;> (first | rfl | (simp; done))) | (with_reducible first | refine Blk.alloc_ ?_ _ | apply Blk.own2 | refine Blk.other2 ?_ (by omega) | (apply Blk.below; rotate_left; assumption)))) hb3
    have p3_a1 := k3_a1.cell0
    have d3_a1 : w.heap.size + 1 < w3.heap.size := k3_a1.lt
    have q3_a1 := k3_a1.cell1
    have K3_a1 := Lib.hid k3_a1; clear k3_a1
    have HB3 := Lib.hid (show Below w.heap.size w w3 from (by repeat first | exact Below.refl _ _ | exact HB2.out | (with_reducible refine Below.trans ?_ (Below.mono (by with_reducible assumption) ?_)) | (with_reducible refine Below.alloc_ ?_ ?_ _) | (with_reducible refine Below.drew ?_) | (with_reducible refine Below.set2 ?_ ?_) | exact Nat.le_refl _ | omega | focus (simp <;> omega)))
    have hs3 : w.heap.size ≤ w3.heap.size := HB3.out.size
    clear K2_a0 K2_a1 HB2 hb3
    go_wp2
    go_ret
    exact ⟨rfl, HB3.out⟩
end Go.Proofs.Ythndfmpnfgbioaa
