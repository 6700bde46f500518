/- Contracts of ratio: Add, Mul, Sub, Div, Of. -/
import Derived.Test.YtglcififcldchaaGreatDoorPRg
namespace Go.Proofs.YtglcififcldchaaGreatDoor
open Go.RowKit
attribute [local go_sem ↓] Go.wp_at_zero Go.wp_at_succ
set_option linter.unusedVariables false

theorem LimI.sgn {k : Nat} {w : World} {b : Bool} {m : Value} {X : Int} (h : LimI k w (.agg #[.bool b, m]) X) : X = sg b X.natAbs := by
  obtain ⟨b', m', N, e, h1, rfl⟩ := h
  simp at e
  obtain ⟨rfl, rfl⟩ := e
  rw [sg_abs]
theorem LimI.neg {k : Nat} {w : World} {b : Bool} {m : Value} {X : Int} (h : LimI k w (.agg #[.bool b, m]) X) : LimI k w (.agg #[.bool (!b), m]) (-X) := by
  have e := h.sgn
  have h2 := limI_mk (b := !b) h.mag
  rw [sg_not, ← e] at h2
  exact h2
set_option maxRecDepth 100000 in
set_option maxHeartbeats 1000000 in
theorem q_add0 (b : Bool) (A : Option Addr) (n c : Nat) (b' : Bool) (A' : Option Addr) (n' c' : Nat) (p : Bool) (P : Option Addr) (m d : Nat) (p' : Bool) (P' : Option Addr) (m' d' : Nat) (w : World) (k l : Nat) (x y : Rat) (hx : LimQ k w (.agg #[.bool b, .slice A n c, .bool b', .slice A' n' c']) x) (hy : LimQ l w (.agg #[.bool p, .slice P m d, .bool p', .slice P' m' d']) y) (hk : k ≤ 40000) (hl : l ≤ 40000) (h1 : 1 ≤ k) (h1' : 1 ≤ l) :
    Calls Tryz.prog 23 #[(.agg #[.bool b, .slice A n c, .bool b', .slice A' n' c']), (.agg #[.bool p, .slice P m d, .bool p', .slice P' m' d'])] w fun e w' => RatPost w w' e (x + y) := by
  have x_0 := Lib.hid hx
  have y_0 := Lib.hid hy
  clear hx hy
  go_enter Tryz.func23, Tryz.ntmps23
  go_wp2_with fail
  refine Calls.mono (told_add _ _ _ _ _ _ _ _ _ _ _ _ _ _ _ _ _ k l x y (((x_0.out.alloc_ _).alloc_ _).alloc_ _) (((y_0.out.alloc_ _).alloc_ _).alloc_ _) hk hl h1 h1') ?_
  rintro e w1 ⟨v, rfl, h, hb⟩
  obtain ⟨b1, A1, n1, c1, d1, B1, m1, k1, rfl, -, -, -, h1, h2⟩ := h.form
  have hB := bun (bun (bun (hb)))
  have Ka_1 := Lib.hid (show Blk w1 (w.heap.size) 26 #[.bool b, .slice A n c, .bool b', .slice A' n' c'] from (((Blk.new _ _ (by simp) _ _).alloc_ _).alloc_ _).below hb)
  have Kb_1 := Lib.hid (show Blk w1 (w.heap.size + 1) 26 #[.bool p, .slice P m d, .bool p', .slice P' m' d'] from ((Blk.new _ _ (by simp) _ _).alloc_ _).below hb)
  have Kr_1 := Lib.hid (show Blk w1 (w.heap.size + 1 + 1) 26 #[.bool false, .slice none 0 0, .bool false, .slice none 0 0] from (Blk.new _ _ (by simp) _ _).below hb)
  have z_1 := Lib.hid (h1)
  have z2_1 := Lib.hid (h2)
  have HB_1 := Lib.hid (hB)
  have hs_1 : w.heap.size ≤ w1.heap.size := HB_1.out.size
  have hz_1 : w.heap.size + 3 ≤ w1.heap.size := (by have h := hb.size; (try simp at h); omega)
  clear hB hb x_0 y_0
  obtain ⟨p10, p11, p12, p13, l1⟩ := Kr_1.out.use4
  obtain ⟨r10, r11, r12, r13⟩ := Kr_1.out.into4
  go_wp2
  obtain ⟨WF, hWF⟩ : ∃ W, W = ((((w1.setCell ⟨w.heap.size + 1 + 1, 0, none⟩ (.bool b1)).setCell ⟨w.heap.size + 1 + 1, 1, none⟩ (.slice A1 n1 c1)).setCell ⟨w.heap.size + 1 + 1, 2, none⟩ (.bool d1)).setCell ⟨w.heap.size + 1 + 1, 3, none⟩ (.slice B1 m1 k1)) := ⟨_, rfl⟩
  rw [← hWF]
  have kq : Blk WF (w.heap.size + 1 + 1) 26 #[.bool b1, .slice A1 n1 c1, .bool d1, .slice B1 m1 k1] := by rw [hWF]; exact Kr_1.out.own4
  have hBF : Below w.heap.size w WF := by rw [hWF]; exact Below.set4 (HB_1.out) (by first | omega | (simp; omega) | simp)
  have f1 : IsInt WF (.agg #[.bool b1, .slice A1 n1 c1]) (x + y).num := by rw [hWF]; exact z_1.out.other4 Kr_1.out nu nu nu nu
  have f2 : IsInt WF (.agg #[.bool d1, .slice B1 m1 k1]) ((x + y).den : Int) := by rw [hWF]; exact z2_1.out.other4 Kr_1.out nu nu nu nu
  have HE : Hid (RatPost w WF (Ending.returned (.agg #[.bool b1, .slice A1 n1 c1, .bool d1, .slice B1 m1 k1])) (x + y)) := ⟨_, rfl, ⟨_, _, _, _, rfl, f1, f2⟩, hBF⟩
  obtain ⟨e0, e1, e2, e3⟩ := kq.cells4
  clear hWF
  exact bodyPost_ret (v := .agg #[.bool b1, .slice A1 n1 c1, .bool d1, .slice B1 m1 k1]) (by simp [results, Tryz.results23, go_sem, e0, e1, e2, e3] <;> omega) rfl HE.out

theorem q_add {k l : Nat} {w : World} {v v' : Value} {x y : Rat} (hx : LimQ k w v x) (hy : LimQ l w v' y) (hk : k ≤ 40000) (hl : l ≤ 40000) (h1 : 1 ≤ k) (h1' : 1 ≤ l) : Calls Tryz.prog 23 #[v, v'] w fun e w' => RatPost w w' e (x + y) := by
  have Hx := hx
  have Hy := hy
  obtain ⟨X, Y, hx, rfl⟩ := hx
  obtain ⟨X', Y', hy, rfl⟩ := hy
  obtain ⟨b, A, n, c, b', A', n', c', rfl, -, -⟩ := hx.form
  obtain ⟨p, P, m, d, p', P', m', d', rfl, -, -⟩ := hy.form
  exact q_add0 b A n c b' A' n' c' p P m d p' P' m' d' w k l _ _ Hx Hy hk hl h1 h1'

theorem LimP.zero {k : Nat} {w : World} {b b' : Bool} {m m' : Value} {q : Rat} (h : LimP k w (.agg #[.bool b, m, .bool b', m']) q) : ∃ X Y, LimI k w (.agg #[.bool b, m]) X ∧ LimI k w (.agg #[.bool b', m']) Y ∧ 0 < Y ∧ q = Rat.divInt X Y ∧ (X = 0 ↔ q = 0) := by
  obtain ⟨X, Y, h1, h2, hY, rfl⟩ := h.parts
  refine ⟨X, Y, h1, h2, hY, rfl, ?_⟩
  obtain ⟨e1, e2, hg⟩ := divInt_parts X hY
  rw [← Rat.num_eq_zero]
  constructor
  · intro h0
    have e4 := e1.trans h0
    rcases Int.mul_eq_zero.1 e4 with h | h
    · exact h
    · omega
  · intro h0
    rw [h0, Int.zero_mul] at e1
    exact e1.symm

theorem IsInt.limk {w : World} {v : Value} {Z : Int} (h : IsInt w v Z) (h1 : -9223372036854775808 ≤ Z) (h2 : Z ≤ 9223372036854775807) : LimI 2 w v Z := h.lim (by
    have : (4294967296 : Nat) ^ 2 = 18446744073709551616 := by decide
    omega)

def RatOfPost (w w' : World) (e : Ending) (q : Rat) (ok : Bool) : Prop := ∃ v, e = .returned (.tuple #[v, .bool ok]) ∧ IsRat w' v q ∧ Below w.heap.size w w'

set_option maxRecDepth 100000 in
set_option maxHeartbeats 2000000 in
theorem of_0 (N D : Int) (w : World) (h1 : -9223372036854775808 ≤ N) (h2 : N ≤ 9223372036854775807) (h3 : -9223372036854775808 ≤ D) (h4 : D ≤ 9223372036854775807) (h0 : D = 0) :
    Calls Tryz.prog 29 #[.int .i64 N, .int .i64 D] w fun e w' => RatOfPost w w' e 0 false := by
  have HH0 := Lib.hid h0
  clear h0
  go_enter Tryz.func29, Tryz.ntmps29
  go_wp2_with fail
  refine Calls.mono (of_any N _ h1 h2) ?_
  rintro e w1 ⟨v, rfl, h, hb⟩
  obtain ⟨b1, A1, n1, c1, rfl, -, -, h⟩ := h.form
  replace h := h.limk h1 h2
  have hB := bun (hb)
  have Kr_1 := Lib.hid (show Blk w1 (w.heap.size) 26 #[.bool false, .slice none 0 0, .bool false, .slice none 0 0] from (Blk.new _ _ (by simp) _ _).below hb)
  have n_1 := Lib.hid (h)
  have HB_1 := Lib.hid (hB)
  have hs_1 : w.heap.size ≤ w1.heap.size := HB_1.out.size
  have hz_1 : w.heap.size + 1 ≤ w1.heap.size := (by have h := hb.size; (try simp at h); omega)
  clear hB hb 
  go_wp2_with fail
  refine Calls.mono (of_any D _ h3 h4) ?_
  rintro e w2 ⟨v, rfl, h, hb⟩
  obtain ⟨b2, A2, n2, c2, rfl, e, -, h⟩ := h.form
  clear e
  replace h := h.limk h3 h4
  have hB := hb
  have n_2 := Lib.hid (n_1.out.below hB)
  have Kr_2 := Lib.hid (Kr_1.out.below hB)
  have d_2 := Lib.hid (h)
  have HB_2 := Lib.hid (below_trans HB_1.out hB)
  have hs_2 : w.heap.size ≤ w2.heap.size := HB_2.out.size
  have hz_2 : w1.heap.size + 0 ≤ w2.heap.size := (by have h := hb.size; (try simp at h); omega)
  clear hB hb n_1 Kr_1 HB_1
  go_wp2_with fail
  refine Calls.mono (isZero_true _ _ _ _ 2 D _ ((d_2.out.alloc_ _).alloc_ _) (by omega) HH0.out) ?_
  rintro e w3 ⟨rfl, hb⟩
  have hB := bun (bun (hb))
  have n_3 := Lib.hid (n_2.out.below hB)
  have d_3 := Lib.hid (d_2.out.below hB)
  have Kr_3 := Lib.hid (Kr_2.out.below hB)
  have Kn_3 := Lib.hid (show Blk w3 (w2.heap.size) 24 #[.bool b1, .slice A1 n1 c1] from ((Blk.new _ _ (by simp) _ _).alloc_ _).below hb)
  have Kd_3 := Lib.hid (show Blk w3 (w2.heap.size + 1) 24 #[.bool b2, .slice A2 n2 c2] from (Blk.new _ _ (by simp) _ _).below hb)
  have HB_3 := Lib.hid (below_trans HB_2.out hB)
  have hs_3 : w.heap.size ≤ w3.heap.size := HB_3.out.size
  have hz_3 : w2.heap.size + 2 ≤ w3.heap.size := (by have h := hb.size; (try simp at h); omega)
  clear hB hb n_2 d_2 Kr_2 HB_2
  go_wp2_with fail
  refine Calls.mono (zero_any _) ?_
  rintro e w4 ⟨v, rfl, h, hb⟩
  obtain ⟨b4, A4, n4, c4, d4, B4, m4, k4, rfl, -, -, -, h1, h2⟩ := h.form
  have hB := hb
  have n_4 := Lib.hid (n_3.out.below hB)
  have d_4 := Lib.hid (d_3.out.below hB)
  have Kr_4 := Lib.hid (Kr_3.out.below hB)
  have Kn_4 := Lib.hid (Kn_3.out.below hB)
  have Kd_4 := Lib.hid (Kd_3.out.below hB)
  have z_4 := Lib.hid (h1)
  have z2_4 := Lib.hid (h2)
  have HB_4 := Lib.hid (below_trans HB_3.out hB)
  have hs_4 : w.heap.size ≤ w4.heap.size := HB_4.out.size
  have hz_4 : w3.heap.size + 0 ≤ w4.heap.size := (by have h := hb.size; (try simp at h); omega)
  clear hB hb n_3 d_3 Kr_3 Kn_3 Kd_3 HB_3
  obtain ⟨p10, p11, p12, p13, l1⟩ := Kr_4.out.use4
  obtain ⟨r10, r11, r12, r13⟩ := Kr_4.out.into4
  go_wp2
  obtain ⟨WF, hWF⟩ : ∃ W, W = ((((w4.setCell ⟨w.heap.size, 0, none⟩ (.bool b4)).setCell ⟨w.heap.size, 1, none⟩ (.slice A4 n4 c4)).setCell ⟨w.heap.size, 2, none⟩ (.bool d4)).setCell ⟨w.heap.size, 3, none⟩ (.slice B4 m4 k4)) := ⟨_, rfl⟩
  rw [← hWF]
  have kq : Blk WF (w.heap.size) 26 #[.bool b4, .slice A4 n4 c4, .bool d4, .slice B4 m4 k4] := by rw [hWF]; exact Kr_4.out.own4
  have hBF : Below w.heap.size w WF := by rw [hWF]; exact Below.set4 (HB_4.out) (by first | omega | (simp; omega) | simp)
  have f1 : IsInt WF (.agg #[.bool b4, .slice A4 n4 c4]) (0 : Rat).num := by rw [hWF]; exact z_4.out.other4 Kr_4.out nu nu nu nu
  have f2 : IsInt WF (.agg #[.bool d4, .slice B4 m4 k4]) ((0 : Rat).den : Int) := by rw [hWF]; exact z2_4.out.other4 Kr_4.out nu nu nu nu
  have HE : Hid (RatOfPost w WF (Ending.returned (.tuple #[.agg #[.bool b4, .slice A4 n4 c4, .bool d4, .slice B4 m4 k4], .bool false])) 0 false) := ⟨_, rfl, ⟨_, _, _, _, rfl, f1, f2⟩, hBF⟩
  obtain ⟨e0, e1, e2, e3⟩ := kq.cells4
  clear hWF
  exact bodyPost_ret (v := .tuple #[.agg #[.bool b4, .slice A4 n4 c4, .bool d4, .slice B4 m4 k4], .bool false]) (by simp [results, Tryz.results29, go_sem, e0, e1, e2, e3] <;> omega) rfl HE.out

set_option maxRecDepth 100000 in
set_option maxHeartbeats 2000000 in
theorem of_p (N D : Int) (w : World) (h1 : -9223372036854775808 ≤ N) (h2 : N ≤ 9223372036854775807) (h3 : -9223372036854775808 ≤ D) (h4 : D ≤ 9223372036854775807) (h0 : 0 < D) :
    Calls Tryz.prog 29 #[.int .i64 N, .int .i64 D] w fun e w' => RatOfPost w w' e (Rat.divInt N D) true := by
  have HH0 := Lib.hid h0
  go_enter Tryz.func29, Tryz.ntmps29
  go_wp2_with fail
  refine Calls.mono (of_any N _ h1 h2) ?_
  rintro e w1 ⟨v, rfl, h, hb⟩
  obtain ⟨b1, A1, n1, c1, rfl, -, -, h⟩ := h.form
  replace h := h.limk h1 h2
  have hB := bun (hb)
  have Kr_1 := Lib.hid (show Blk w1 (w.heap.size) 26 #[.bool false, .slice none 0 0, .bool false, .slice none 0 0] from (Blk.new _ _ (by simp) _ _).below hb)
  have n_1 := Lib.hid (h)
  have HB_1 := Lib.hid (hB)
  have hs_1 : w.heap.size ≤ w1.heap.size := HB_1.out.size
  have hz_1 : w.heap.size + 1 ≤ w1.heap.size := (by have h := hb.size; (try simp at h); omega)
  clear hB hb 
  go_wp2_with fail
  refine Calls.mono (of_any D _ h3 h4) ?_
  rintro e w2 ⟨v, rfl, h, hb⟩
  obtain ⟨b2, A2, n2, c2, rfl, e, -, h⟩ := h.form
  have e0 := e.trans (decide_eq_false (show ¬ D < 0 by omega))
  subst e0
  clear e
  replace h := h.limk h3 h4
  have hB := hb
  have n_2 := Lib.hid (n_1.out.below hB)
  have Kr_2 := Lib.hid (Kr_1.out.below hB)
  have d_2 := Lib.hid (h)
  have HB_2 := Lib.hid (below_trans HB_1.out hB)
  have hs_2 : w.heap.size ≤ w2.heap.size := HB_2.out.size
  have hz_2 : w1.heap.size + 0 ≤ w2.heap.size := (by have h := hb.size; (try simp at h); omega)
  clear hB hb n_1 Kr_1 HB_1
  go_wp2_with fail
  refine Calls.mono (isZero_false _ _ _ _ 2 D _ ((d_2.out.alloc_ _).alloc_ _) (by omega) (by omega)) ?_
  rintro e w3 ⟨rfl, hb⟩
  have hB := bun (bun (hb))
  have n_3 := Lib.hid (n_2.out.below hB)
  have d_3 := Lib.hid (d_2.out.below hB)
  have Kr_3 := Lib.hid (Kr_2.out.below hB)
  have Kn_3 := Lib.hid (show Blk w3 (w2.heap.size) 24 #[.bool b1, .slice A1 n1 c1] from ((Blk.new _ _ (by simp) _ _).alloc_ _).below hb)
  have Kd_3 := Lib.hid (show Blk w3 (w2.heap.size + 1) 24 #[.bool false, .slice A2 n2 c2] from (Blk.new _ _ (by simp) _ _).below hb)
  have HB_3 := Lib.hid (below_trans HB_2.out hB)
  have hs_3 : w.heap.size ≤ w3.heap.size := HB_3.out.size
  have hz_3 : w2.heap.size + 2 ≤ w3.heap.size := (by have h := hb.size; (try simp at h); omega)
  clear hB hb n_2 d_2 Kr_2 HB_2
  obtain ⟨p10, p11, l1⟩ := Kd_3.out.use2
  obtain ⟨p20, p21, l2⟩ := Kn_3.out.use2
  go_wp2_with fail
  refine Calls.mono (lowest_any _ _ _ _ _ _ _ _ _ 2 N D n_3.out d_3.out (by omega) HH0.out) ?_
  rintro e w4 ⟨v, rfl, h, hb⟩
  obtain ⟨b4, A4, n4, c4, d4, B4, m4, k4, rfl, -, -, -, h1, h2⟩ := h.form
  have hB := hb
  have n_4 := Lib.hid (n_3.out.below hB)
  have d_4 := Lib.hid (d_3.out.below hB)
  have Kr_4 := Lib.hid (Kr_3.out.below hB)
  have Kn_4 := Lib.hid (Kn_3.out.below hB)
  have Kd_4 := Lib.hid (Kd_3.out.below hB)
  have z_4 := Lib.hid (h1)
  have z2_4 := Lib.hid (h2)
  have HB_4 := Lib.hid (below_trans HB_3.out hB)
  have hs_4 : w.heap.size ≤ w4.heap.size := HB_4.out.size
  have hz_4 : w3.heap.size + 0 ≤ w4.heap.size := (by have h := hb.size; (try simp at h); omega)
  clear hB hb n_3 d_3 Kr_3 Kn_3 Kd_3 HB_3 p10 p11 l1 p20 p21 l2
  obtain ⟨p30, p31, p32, p33, l3⟩ := Kr_4.out.use4
  obtain ⟨r30, r31, r32, r33⟩ := Kr_4.out.into4
  go_wp2
  obtain ⟨WF, hWF⟩ : ∃ W, W = ((((w4.setCell ⟨w.heap.size, 0, none⟩ (.bool b4)).setCell ⟨w.heap.size, 1, none⟩ (.slice A4 n4 c4)).setCell ⟨w.heap.size, 2, none⟩ (.bool d4)).setCell ⟨w.heap.size, 3, none⟩ (.slice B4 m4 k4)) := ⟨_, rfl⟩
  rw [← hWF]
  have kq : Blk WF (w.heap.size) 26 #[.bool b4, .slice A4 n4 c4, .bool d4, .slice B4 m4 k4] := by rw [hWF]; exact Kr_4.out.own4
  have hBF : Below w.heap.size w WF := by rw [hWF]; exact Below.set4 (HB_4.out) (by first | omega | (simp; omega) | simp)
  have f1 : IsInt WF (.agg #[.bool b4, .slice A4 n4 c4]) (Rat.divInt N D).num := by rw [hWF]; exact z_4.out.other4 Kr_4.out nu nu nu nu
  have f2 : IsInt WF (.agg #[.bool d4, .slice B4 m4 k4]) ((Rat.divInt N D).den : Int) := by rw [hWF]; exact z2_4.out.other4 Kr_4.out nu nu nu nu
  have HE : Hid (RatOfPost w WF (Ending.returned (.tuple #[.agg #[.bool b4, .slice A4 n4 c4, .bool d4, .slice B4 m4 k4], .bool true])) (Rat.divInt N D) true) := ⟨_, rfl, ⟨_, _, _, _, rfl, f1, f2⟩, hBF⟩
  obtain ⟨e0, e1, e2, e3⟩ := kq.cells4
  clear hWF
  exact bodyPost_ret (v := .tuple #[.agg #[.bool b4, .slice A4 n4 c4, .bool d4, .slice B4 m4 k4], .bool true]) (by simp [results, Tryz.results29, go_sem, e0, e1, e2, e3] <;> omega) rfl HE.out

set_option maxRecDepth 100000 in
set_option maxHeartbeats 2000000 in
theorem of_n (N D : Int) (w : World) (h1 : -9223372036854775808 ≤ N) (h2 : N ≤ 9223372036854775807) (h3 : -9223372036854775808 ≤ D) (h4 : D ≤ 9223372036854775807) (h0 : D < 0) :
    Calls Tryz.prog 29 #[.int .i64 N, .int .i64 D] w fun e w' => RatOfPost w w' e (Rat.divInt N D) true := by
  have HH0 := Lib.hid h0
  go_enter Tryz.func29, Tryz.ntmps29
  go_wp2_with fail
  refine Calls.mono (of_any N _ h1 h2) ?_
  rintro e w1 ⟨v, rfl, h, hb⟩
  obtain ⟨b1, A1, n1, c1, rfl, -, -, h⟩ := h.form
  replace h := h.limk h1 h2
  have hB := bun (hb)
  have Kr_1 := Lib.hid (show Blk w1 (w.heap.size) 26 #[.bool false, .slice none 0 0, .bool false, .slice none 0 0] from (Blk.new _ _ (by simp) _ _).below hb)
  have n_1 := Lib.hid (h)
  have HB_1 := Lib.hid (hB)
  have hs_1 : w.heap.size ≤ w1.heap.size := HB_1.out.size
  have hz_1 : w.heap.size + 1 ≤ w1.heap.size := (by have h := hb.size; (try simp at h); omega)
  clear hB hb 
  go_wp2_with fail
  refine Calls.mono (of_any D _ h3 h4) ?_
  rintro e w2 ⟨v, rfl, h, hb⟩
  obtain ⟨b2, A2, n2, c2, rfl, e, -, h⟩ := h.form
  have e0 := e.trans (decide_eq_true (show D < 0 from h0))
  subst e0
  clear e
  replace h := h.limk h3 h4
  have hB := hb
  have n_2 := Lib.hid (n_1.out.below hB)
  have Kr_2 := Lib.hid (Kr_1.out.below hB)
  have d_2 := Lib.hid (h)
  have HB_2 := Lib.hid (below_trans HB_1.out hB)
  have hs_2 : w.heap.size ≤ w2.heap.size := HB_2.out.size
  have hz_2 : w1.heap.size + 0 ≤ w2.heap.size := (by have h := hb.size; (try simp at h); omega)
  clear hB hb n_1 Kr_1 HB_1
  go_wp2_with fail
  refine Calls.mono (isZero_false _ _ _ _ 2 D _ ((d_2.out.alloc_ _).alloc_ _) (by omega) (by omega)) ?_
  rintro e w3 ⟨rfl, hb⟩
  have hB := bun (bun (hb))
  have n_3 := Lib.hid (n_2.out.below hB)
  have d_3 := Lib.hid (d_2.out.below hB)
  have Kr_3 := Lib.hid (Kr_2.out.below hB)
  have Kn_3 := Lib.hid (show Blk w3 (w2.heap.size) 24 #[.bool b1, .slice A1 n1 c1] from ((Blk.new _ _ (by simp) _ _).alloc_ _).below hb)
  have Kd_3 := Lib.hid (show Blk w3 (w2.heap.size + 1) 24 #[.bool true, .slice A2 n2 c2] from (Blk.new _ _ (by simp) _ _).below hb)
  have HB_3 := Lib.hid (below_trans HB_2.out hB)
  have hs_3 : w.heap.size ≤ w3.heap.size := HB_3.out.size
  have hz_3 : w2.heap.size + 2 ≤ w3.heap.size := (by have h := hb.size; (try simp at h); omega)
  clear hB hb n_2 d_2 Kr_2 HB_2
  obtain ⟨p10, p11, l1⟩ := Kn_3.out.use2
  obtain ⟨r10, r11⟩ := Kn_3.out.into2
  obtain ⟨p20, p21, l2⟩ := Kd_3.out.use2
  obtain ⟨r20, r21⟩ := Kd_3.out.into2
  go_wp2_with fail
  generalize hW : ((w3.setCell ⟨w2.heap.size, 0, none⟩ (.bool (!b1))).setCell ⟨w2.heap.size + 1, 0, none⟩ (.bool false)) = w4
  have n_4 := Lib.hid (by have h := ((n_3.out.one Kn_3.out (i := 0) (x := .bool b1) (y := .bool (!b1)) rfl nu).one (Kd_3.out.other (by omega) 0 (.bool (!b1))) (i := 0) (x := .bool true) (y := .bool false) rfl nu); rw [hW] at h; exact h)
  have d_4 := Lib.hid (by have h := ((d_3.out.one Kn_3.out (i := 0) (x := .bool b1) (y := .bool (!b1)) rfl nu).one (Kd_3.out.other (by omega) 0 (.bool (!b1))) (i := 0) (x := .bool true) (y := .bool false) rfl nu); rw [hW] at h; exact h)
  have Kr_4 := Lib.hid (show Blk w4 (w.heap.size) 26 #[.bool false, .slice none 0 0, .bool false, .slice none 0 0] from by rw [← hW]; exact ((Kr_3.out.other (by omega) 0 (.bool (!b1))).other (by omega) 0 (.bool false)))
  have Kn_4 := Lib.hid (show Blk w4 (w2.heap.size) 24 #[.bool (!b1), .slice A1 n1 c1] from by rw [← hW]; exact ((Kn_3.out.set_ 0 (.bool (!b1))).other (by omega) 0 (.bool false)))
  have Kd_4 := Lib.hid (show Blk w4 (w2.heap.size + 1) 24 #[.bool false, .slice A2 n2 c2] from by rw [← hW]; exact ((Kd_3.out.other (by omega) 0 (.bool (!b1))).set_ 0 (.bool false)))
  have HB_4 := Lib.hid (show Below w.heap.size w w4 from by rw [← hW]; exact (bset (bset HB_3.out (by omega)) (by omega)))
  have hs_4 : w.heap.size ≤ w4.heap.size := HB_4.out.size
  have hz_4 : w3.heap.size ≤ w4.heap.size := by rw [← hW]; simp [World.setCell]
  clear hW n_3 d_3 Kr_3 Kn_3 Kd_3 HB_3 p10 p11 l1 r10 r11 p20 p21 l2 r20 r21
  refine Calls.mono (lowest_any _ _ _ _ _ _ _ _ _ 2 (-N) (-D) n_4.out.neg d_4.out.neg (by omega) (by have := HH0.out; omega)) ?_
  rintro e w5 ⟨v, rfl, h, hb⟩
  rw [Rat.neg_divInt_neg] at h
  obtain ⟨b5, A5, n5, c5, d5, B5, m5, k5, rfl, -, -, -, h1, h2⟩ := h.form
  have hB := hb
  have n_5 := Lib.hid (n_4.out.below hB)
  have d_5 := Lib.hid (d_4.out.below hB)
  have Kr_5 := Lib.hid (Kr_4.out.below hB)
  have Kn_5 := Lib.hid (Kn_4.out.below hB)
  have Kd_5 := Lib.hid (Kd_4.out.below hB)
  have z_5 := Lib.hid (h1)
  have z2_5 := Lib.hid (h2)
  have HB_5 := Lib.hid (below_trans HB_4.out hB)
  have hs_5 : w.heap.size ≤ w5.heap.size := HB_5.out.size
  have hz_5 : w4.heap.size + 0 ≤ w5.heap.size := (by have h := hb.size; (try simp at h); omega)
  clear hB hb n_4 d_4 Kr_4 Kn_4 Kd_4 HB_4
  obtain ⟨p30, p31, p32, p33, l3⟩ := Kr_5.out.use4
  obtain ⟨r30, r31, r32, r33⟩ := Kr_5.out.into4
  go_wp2
  obtain ⟨WF, hWF⟩ : ∃ W, W = ((((w5.setCell ⟨w.heap.size, 0, none⟩ (.bool b5)).setCell ⟨w.heap.size, 1, none⟩ (.slice A5 n5 c5)).setCell ⟨w.heap.size, 2, none⟩ (.bool d5)).setCell ⟨w.heap.size, 3, none⟩ (.slice B5 m5 k5)) := ⟨_, rfl⟩
  rw [← hWF]
  have kq : Blk WF (w.heap.size) 26 #[.bool b5, .slice A5 n5 c5, .bool d5, .slice B5 m5 k5] := by rw [hWF]; exact Kr_5.out.own4
  have hBF : Below w.heap.size w WF := by rw [hWF]; exact Below.set4 (HB_5.out) (by first | omega | (simp; omega) | simp)
  have f1 : IsInt WF (.agg #[.bool b5, .slice A5 n5 c5]) (Rat.divInt N D).num := by rw [hWF]; exact z_5.out.other4 Kr_5.out nu nu nu nu
  have f2 : IsInt WF (.agg #[.bool d5, .slice B5 m5 k5]) ((Rat.divInt N D).den : Int) := by rw [hWF]; exact z2_5.out.other4 Kr_5.out nu nu nu nu
  have HE : Hid (RatOfPost w WF (Ending.returned (.tuple #[.agg #[.bool b5, .slice A5 n5 c5, .bool d5, .slice B5 m5 k5], .bool true])) (Rat.divInt N D) true) := ⟨_, rfl, ⟨_, _, _, _, rfl, f1, f2⟩, hBF⟩
  obtain ⟨e0, e1, e2, e3⟩ := kq.cells4
  clear hWF
  exact bodyPost_ret (v := .tuple #[.agg #[.bool b5, .slice A5 n5 c5, .bool d5, .slice B5 m5 k5], .bool true]) (by simp [results, Tryz.results29, go_sem, e0, e1, e2, e3] <;> omega) rfl HE.out

theorem of_q (N D : Int) (w : World) (h1 : -9223372036854775808 ≤ N) (h2 : N ≤ 9223372036854775807) (h3 : -9223372036854775808 ≤ D) (h4 : D ≤ 9223372036854775807) : Calls Tryz.prog 29 #[.int .i64 N, .int .i64 D] w fun e w' => RatOfPost w w' e (Rat.divInt N D) (decide (D ≠ 0)) := by
  rcases Int.lt_trichotomy D 0 with h | h | h
  · rw [decide_eq_true (by omega)]; exact of_n N D w h1 h2 h3 h4 h
  · have e : Rat.divInt N D = 0 := by rw [h]; exact Rat.divInt_zero N
    rw [decide_eq_false (fun h2 => h2 h), e]; exact of_0 N D w h1 h2 h3 h4 h
  · rw [decide_eq_true (by omega)]; exact of_p N D w h1 h2 h3 h4 h
end Go.Proofs.YtglcififcldchaaGreatDoor
