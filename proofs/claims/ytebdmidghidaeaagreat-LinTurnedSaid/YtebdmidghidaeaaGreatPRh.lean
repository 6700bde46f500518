/- Contracts of ratio: Add, Mul, Sub, Div, Of. -/
import Derived.Test.YtebdmidghidaeaaGreatPRg
namespace Go.Proofs.YtebdmidghidaeaaGreat
open Go.RowKit
attribute [local go_sem ↓] Go.wp_at_zero Go.wp_at_succ
set_option linter.unusedVariables false

theorem LimI.sgn {k : Nat} {w : World} {b : Bool} {m : Value} {X : Int} (h : LimI k w (.agg #[.bool b, m]) X) : X = sg b X.natAbs := by
  obtain ⟨b', m', N, e, h1, rfl⟩ := h
  simp at e
  obtain ⟨rfl, rfl⟩ := e
  rw [sg_abs]
theorem LimI.neg {k : Nat} {w : World} {b : Bool} {m : Value} {X : Int} (h : LimI k w (.agg #[.bool b, m]) X) : LimI k w (.agg #[.bool (!b), m]) (-X) := by
  have e := h.sgn
  have h2 := limI_mk (b := !b) h.mag
  rw [sg_not, ← e] at h2
  exact h2
theorem LimR.parts {k : Nat} {w : World} {b b' : Bool} {m m' : Value} {X Y : Int} (h : LimR k w (.agg #[.bool b, m, .bool b', m']) X Y) : LimI k w (.agg #[.bool b, m]) X ∧ LimI k w (.agg #[.bool b', m']) Y := by
  obtain ⟨_, _, _, _, e, h1, h2⟩ := h
  injection e with e
  injection e with e
  simp at e
  obtain ⟨rfl, rfl, rfl, rfl⟩ := e
  exact ⟨h1, h2⟩
theorem LimQ.neg {k : Nat} {w : World} {b b' : Bool} {m m' : Value} {q : Rat} (h : LimQ k w (.agg #[.bool b, m, .bool b', m']) q) : LimQ k w (.agg #[.bool (!b), m, .bool b', m']) (-q) := by
  obtain ⟨X, Y, h, rfl⟩ := h
  obtain ⟨h1, h2⟩ := h.parts
  refine ⟨-X, Y, limR_mk h1.neg h2, ?_⟩
  unfold ratOf
  split
  · exact Rat.neg_divInt _ _
  · exact Rat.neg_zero
/-- 1 by a fraction, of its numbers changed about. -/
theorem over_q {k : Nat} {w : World} {b b' : Bool} {m m' : Value} {X Y : Int} (h1 : LimI k w (.agg #[.bool b, m]) X) (h2 : LimI k w (.agg #[.bool b', m']) Y) (hX : X ≠ 0) (hY : 0 < Y) : LimQ k w (.agg #[.bool b, m', .bool false, m]) (Rat.divInt X Y)⁻¹ := by
  have e := h1.sgn
  have g1 := limI_mk (b := b) h2.mag
  have g2 := limI_mk (b := false) h1.mag
  refine ⟨_, _, limR_mk g1 g2, ?_⟩
  have hp : (0 : Int) < sg false X.natAbs := by show (0 : Int) < (X.natAbs : Int); omega
  unfold ratOf
  rw [if_pos hp, Rat.inv_divInt]
  cases b
  · have e1 : X = (X.natAbs : Int) := e
    show Rat.divInt Y X = Rat.divInt (Y.natAbs : Int) (X.natAbs : Int)
    rw [← e1, show (Y.natAbs : Int) = Y from by omega]
  · have e1 : X = -(X.natAbs : Int) := e
    show Rat.divInt Y X = Rat.divInt (-(Y.natAbs : Int)) (X.natAbs : Int)
    rw [show (Y.natAbs : Int) = Y from by omega, show (X.natAbs : Int) = -X from by omega, ← Rat.neg_divInt_neg Y X]

set_option maxRecDepth 100000 in
set_option maxHeartbeats 1000000 in
theorem q_add0 (b : Bool) (A : Option Addr) (n c : Nat) (b' : Bool) (A' : Option Addr) (n' c' : Nat) (p : Bool) (P : Option Addr) (m d : Nat) (p' : Bool) (P' : Option Addr) (m' d' : Nat) (w : World) (k l : Nat) (x y : Rat) (hx : LimQ k w (.agg #[.bool b, .slice A n c, .bool b', .slice A' n' c']) x) (hy : LimQ l w (.agg #[.bool p, .slice P m d, .bool p', .slice P' m' d']) y) (hk : k ≤ 40000) (hl : l ≤ 40000) (h1 : 1 ≤ k) (h1' : 1 ≤ l) :
    Calls Tryz.prog 35 #[(.agg #[.bool b, .slice A n c, .bool b', .slice A' n' c']), (.agg #[.bool p, .slice P m d, .bool p', .slice P' m' d'])] w fun e w' => RatPost w w' e (x + y) := by
  have x_0 := Lib.hid hx
  have y_0 := Lib.hid hy
  clear hx hy
  go_enter Tryz.func35, Tryz.ntmps35
  go_wp2_with fail
  refine Calls.mono (told_add _ _ _ _ _ _ _ _ _ _ _ _ _ _ _ _ _ k l x y (((x_0.out.alloc_ _).alloc_ _).alloc_ _) (((y_0.out.alloc_ _).alloc_ _).alloc_ _) hk hl h1 h1') ?_
  rintro e w1 ⟨v, rfl, h, hb⟩
  obtain ⟨b1, A1, n1, c1, d1, B1, m1, k1, rfl, -, -, -, h1, h2⟩ := h.form
  have hB := bun (bun (bun (hb)))
  have Ka_1 := Lib.hid (show Blk w1 (w.heap.size) 27 #[.bool b, .slice A n c, .bool b', .slice A' n' c'] from (((Blk.new _ _ (by simp) _ _).alloc_ _).alloc_ _).below hb)
  have Kb_1 := Lib.hid (show Blk w1 (w.heap.size + 1) 27 #[.bool p, .slice P m d, .bool p', .slice P' m' d'] from ((Blk.new _ _ (by simp) _ _).alloc_ _).below hb)
  have Kr_1 := Lib.hid (show Blk w1 (w.heap.size + 1 + 1) 27 #[.bool false, .slice none 0 0, .bool false, .slice none 0 0] from (Blk.new _ _ (by simp) _ _).below hb)
  have z_1 := Lib.hid (h1)
  have z2_1 := Lib.hid (h2)
  have HB_1 := Lib.hid (hB)
  have hs_1 : w.heap.size ≤ w1.heap.size := HB_1.out.size
  have hz_1 : w.heap.size + 3 ≤ w1.heap.size := (by have h := hb.size; (try simp at h); omega)
  clear hB hb x_0 y_0
  obtain ⟨p10, p11, p12, p13, l1⟩ := Kr_1.out.use4
  obtain ⟨r10, r11, r12, r13⟩ := Kr_1.out.into4
  go_wp2
  obtain ⟨WF, hWF⟩ : ∃ W, W = ((((w1.setCell ⟨w.heap.size + 1 + 1, 0, none⟩ (.bool b1)).setCell ⟨w.heap.size + 1 + 1, 1, none⟩ (.slice A1 n1 c1)).setCell ⟨w.heap.size + 1 + 1, 2, none⟩ (.bool d1)).setCell ⟨w.heap.size + 1 + 1, 3, none⟩ (.slice B1 m1 k1)) := ⟨_, rfl⟩
  rw [← hWF]
  have kq : Blk WF (w.heap.size + 1 + 1) 27 #[.bool b1, .slice A1 n1 c1, .bool d1, .slice B1 m1 k1] := by rw [hWF]; exact Kr_1.out.own4
  have hBF : Below w.heap.size w WF := by rw [hWF]; exact Below.set4 (HB_1.out) (by first | omega | (simp; omega) | simp)
  have f1 : IsInt WF (.agg #[.bool b1, .slice A1 n1 c1]) (x + y).num := by rw [hWF]; exact z_1.out.other4 Kr_1.out nu nu nu nu
  have f2 : IsInt WF (.agg #[.bool d1, .slice B1 m1 k1]) ((x + y).den : Int) := by rw [hWF]; exact z2_1.out.other4 Kr_1.out nu nu nu nu
  have HE : Hid (RatPost w WF (Ending.returned (.agg #[.bool b1, .slice A1 n1 c1, .bool d1, .slice B1 m1 k1])) (x + y)) := ⟨_, rfl, ⟨_, _, _, _, rfl, f1, f2⟩, hBF⟩
  obtain ⟨e0, e1, e2, e3⟩ := kq.cells4
  clear hWF
  exact bodyPost_ret (v := .agg #[.bool b1, .slice A1 n1 c1, .bool d1, .slice B1 m1 k1]) (by simp [results, Tryz.results35, go_sem, e0, e1, e2, e3] <;> omega) rfl HE.out

theorem q_add {k l : Nat} {w : World} {v v' : Value} {x y : Rat} (hx : LimQ k w v x) (hy : LimQ l w v' y) (hk : k ≤ 40000) (hl : l ≤ 40000) (h1 : 1 ≤ k) (h1' : 1 ≤ l) : Calls Tryz.prog 35 #[v, v'] w fun e w' => RatPost w w' e (x + y) := by
  have Hx := hx
  have Hy := hy
  obtain ⟨X, Y, hx, rfl⟩ := hx
  obtain ⟨X', Y', hy, rfl⟩ := hy
  obtain ⟨b, A, n, c, b', A', n', c', rfl, -, -⟩ := hx.form
  obtain ⟨p, P, m, d, p', P', m', d', rfl, -, -⟩ := hy.form
  exact q_add0 b A n c b' A' n' c' p P m d p' P' m' d' w k l _ _ Hx Hy hk hl h1 h1'

set_option maxRecDepth 100000 in
set_option maxHeartbeats 1000000 in
theorem q_mul0 (b : Bool) (A : Option Addr) (n c : Nat) (b' : Bool) (A' : Option Addr) (n' c' : Nat) (p : Bool) (P : Option Addr) (m d : Nat) (p' : Bool) (P' : Option Addr) (m' d' : Nat) (w : World) (k l : Nat) (x y : Rat) (hx : LimQ k w (.agg #[.bool b, .slice A n c, .bool b', .slice A' n' c']) x) (hy : LimQ l w (.agg #[.bool p, .slice P m d, .bool p', .slice P' m' d']) y) (hk : k ≤ 40000) (hl : l ≤ 40000) (h1 : 1 ≤ k) (h1' : 1 ≤ l) :
    Calls Tryz.prog 40 #[(.agg #[.bool b, .slice A n c, .bool b', .slice A' n' c']), (.agg #[.bool p, .slice P m d, .bool p', .slice P' m' d'])] w fun e w' => RatPost w w' e (x * y) := by
  have x_0 := Lib.hid hx
  have y_0 := Lib.hid hy
  clear hx hy
  go_enter Tryz.func40, Tryz.ntmps40
  go_wp2_with fail
  refine Calls.mono (told_mul _ _ _ _ _ _ _ _ _ _ _ _ _ _ _ _ _ k l x y (((x_0.out.alloc_ _).alloc_ _).alloc_ _) (((y_0.out.alloc_ _).alloc_ _).alloc_ _) hk hl h1 h1') ?_
  rintro e w1 ⟨v, rfl, h, hb⟩
  obtain ⟨b1, A1, n1, c1, d1, B1, m1, k1, rfl, -, -, -, h1, h2⟩ := h.form
  have hB := bun (bun (bun (hb)))
  have Ka_1 := Lib.hid (show Blk w1 (w.heap.size) 27 #[.bool b, .slice A n c, .bool b', .slice A' n' c'] from (((Blk.new _ _ (by simp) _ _).alloc_ _).alloc_ _).below hb)
  have Kb_1 := Lib.hid (show Blk w1 (w.heap.size + 1) 27 #[.bool p, .slice P m d, .bool p', .slice P' m' d'] from ((Blk.new _ _ (by simp) _ _).alloc_ _).below hb)
  have Kr_1 := Lib.hid (show Blk w1 (w.heap.size + 1 + 1) 27 #[.bool false, .slice none 0 0, .bool false, .slice none 0 0] from (Blk.new _ _ (by simp) _ _).below hb)
  have z_1 := Lib.hid (h1)
  have z2_1 := Lib.hid (h2)
  have HB_1 := Lib.hid (hB)
  have hs_1 : w.heap.size ≤ w1.heap.size := HB_1.out.size
  have hz_1 : w.heap.size + 3 ≤ w1.heap.size := (by have h := hb.size; (try simp at h); omega)
  clear hB hb x_0 y_0
  obtain ⟨p10, p11, p12, p13, l1⟩ := Kr_1.out.use4
  obtain ⟨r10, r11, r12, r13⟩ := Kr_1.out.into4
  go_wp2
  obtain ⟨WF, hWF⟩ : ∃ W, W = ((((w1.setCell ⟨w.heap.size + 1 + 1, 0, none⟩ (.bool b1)).setCell ⟨w.heap.size + 1 + 1, 1, none⟩ (.slice A1 n1 c1)).setCell ⟨w.heap.size + 1 + 1, 2, none⟩ (.bool d1)).setCell ⟨w.heap.size + 1 + 1, 3, none⟩ (.slice B1 m1 k1)) := ⟨_, rfl⟩
  rw [← hWF]
  have kq : Blk WF (w.heap.size + 1 + 1) 27 #[.bool b1, .slice A1 n1 c1, .bool d1, .slice B1 m1 k1] := by rw [hWF]; exact Kr_1.out.own4
  have hBF : Below w.heap.size w WF := by rw [hWF]; exact Below.set4 (HB_1.out) (by first | omega | (simp; omega) | simp)
  have f1 : IsInt WF (.agg #[.bool b1, .slice A1 n1 c1]) (x * y).num := by rw [hWF]; exact z_1.out.other4 Kr_1.out nu nu nu nu
  have f2 : IsInt WF (.agg #[.bool d1, .slice B1 m1 k1]) ((x * y).den : Int) := by rw [hWF]; exact z2_1.out.other4 Kr_1.out nu nu nu nu
  have HE : Hid (RatPost w WF (Ending.returned (.agg #[.bool b1, .slice A1 n1 c1, .bool d1, .slice B1 m1 k1])) (x * y)) := ⟨_, rfl, ⟨_, _, _, _, rfl, f1, f2⟩, hBF⟩
  obtain ⟨e0, e1, e2, e3⟩ := kq.cells4
  clear hWF
  exact bodyPost_ret (v := .agg #[.bool b1, .slice A1 n1 c1, .bool d1, .slice B1 m1 k1]) (by simp [results, Tryz.results40, go_sem, e0, e1, e2, e3] <;> omega) rfl HE.out

theorem q_mul {k l : Nat} {w : World} {v v' : Value} {x y : Rat} (hx : LimQ k w v x) (hy : LimQ l w v' y) (hk : k ≤ 40000) (hl : l ≤ 40000) (h1 : 1 ≤ k) (h1' : 1 ≤ l) : Calls Tryz.prog 40 #[v, v'] w fun e w' => RatPost w w' e (x * y) := by
  have Hx := hx
  have Hy := hy
  obtain ⟨X, Y, hx, rfl⟩ := hx
  obtain ⟨X', Y', hy, rfl⟩ := hy
  obtain ⟨b, A, n, c, b', A', n', c', rfl, -, -⟩ := hx.form
  obtain ⟨p, P, m, d, p', P', m', d', rfl, -, -⟩ := hy.form
  exact q_mul0 b A n c b' A' n' c' p P m d p' P' m' d' w k l _ _ Hx Hy hk hl h1 h1'

set_option maxRecDepth 100000 in
set_option maxHeartbeats 1000000 in
theorem q_sub0 (b : Bool) (A : Option Addr) (n c : Nat) (b' : Bool) (A' : Option Addr) (n' c' : Nat) (p : Bool) (P : Option Addr) (m d : Nat) (p' : Bool) (P' : Option Addr) (m' d' : Nat) (w : World) (k l : Nat) (x y : Rat) (hx : LimQ k w (.agg #[.bool b, .slice A n c, .bool b', .slice A' n' c']) x) (hy : LimQ l w (.agg #[.bool p, .slice P m d, .bool p', .slice P' m' d']) y) (hk : k ≤ 40000) (hl : l ≤ 40000) (h1 : 1 ≤ k) (h1' : 1 ≤ l) :
    Calls Tryz.prog 74 #[(.agg #[.bool b, .slice A n c, .bool b', .slice A' n' c']), (.agg #[.bool p, .slice P m d, .bool p', .slice P' m' d'])] w fun e w' => RatPost w w' e (x - y) := by
  have x_0 := Lib.hid hx
  have y_0 := Lib.hid hy.neg
  have HS := Lib.hid (Rat.sub_eq_add_neg x y)
  clear hx hy
  go_enter Tryz.func74, Tryz.ntmps74
  go_upto_region 1 with fail
  generalize hW : (((w.alloc (.cells #[.bool b, .slice A n c, .bool b', .slice A' n' c'] 27)).alloc (.cells #[.bool p, .slice P m d, .bool p', .slice P' m' d'] 27)).alloc (.cells #[.bool false, .slice none 0 0, .bool false, .slice none 0 0] 27)) = w1
  have x_1 := Lib.hid (hW ▸ (((x_0.out.alloc_ _).alloc_ _).alloc_ _))
  have y_1 := Lib.hid (hW ▸ (((y_0.out.alloc_ _).alloc_ _).alloc_ _))
  have Ka_1 := Lib.hid (show Blk w1 (w.heap.size) 27 #[.bool b, .slice A n c, .bool b', .slice A' n' c'] from by rw [← hW]; exact ((Blk.new _ _ (by simp) _ _).alloc_ _).alloc_ _)
  have Kb_1 := Lib.hid (show Blk w1 (w.heap.size + 1) 27 #[.bool p, .slice P m d, .bool p', .slice P' m' d'] from by rw [← hW]; exact (Blk.new _ _ (by simp) _ _).alloc_ _)
  have Kr_1 := Lib.hid (show Blk w1 (w.heap.size + 1 + 1) 27 #[.bool false, .slice none 0 0, .bool false, .slice none 0 0] from by rw [← hW]; exact Blk.new _ _ (by simp) _ _)
  have HB_1 := Lib.hid (show Below w.heap.size w w1 from by rw [← hW]; exact halloc (halloc (halloc (Below.refl _ _))))
  have hs_1 : w.heap.size ≤ w1.heap.size := HB_1.out.size
  have hz_1 : w.heap.size + 3 ≤ w1.heap.size := by rw [← hW]; simp
  clear hW x_0 y_0
  obtain ⟨p10, p11, p12, p13, l1⟩ := Ka_1.out.use4
  obtain ⟨p20, p21, p22, p23, l2⟩ := Kb_1.out.use4
  obtain ⟨r20, r21, r22, r23⟩ := Kb_1.out.into4
  go_wp2_with fail
  generalize hW : (w1.setCell ⟨w.heap.size + 1, 0, none⟩ (.bool (!p))) = w2
  have x_2 := Lib.hid (by have h := (x_1.out.one Kb_1.out (i := 0) (x := .bool p) (y := .bool (!p)) rfl nu); rw [hW] at h; exact h)
  have y_2 := Lib.hid (by have h := (y_1.out.one Kb_1.out (i := 0) (x := .bool p) (y := .bool (!p)) rfl nu); rw [hW] at h; exact h)
  have Ka_2 := Lib.hid (show Blk w2 (w.heap.size) 27 #[.bool b, .slice A n c, .bool b', .slice A' n' c'] from by rw [← hW]; exact (Ka_1.out.other (by omega) 0 (.bool (!p))))
  have Kb_2 := Lib.hid (show Blk w2 (w.heap.size + 1) 27 #[.bool (!p), .slice P m d, .bool p', .slice P' m' d'] from by rw [← hW]; exact (Kb_1.out.set_ 0 (.bool (!p))))
  have Kr_2 := Lib.hid (show Blk w2 (w.heap.size + 1 + 1) 27 #[.bool false, .slice none 0 0, .bool false, .slice none 0 0] from by rw [← hW]; exact (Kr_1.out.other (by omega) 0 (.bool (!p))))
  have HB_2 := Lib.hid (show Below w.heap.size w w2 from by rw [← hW]; exact (bset HB_1.out (by omega)))
  have hs_2 : w.heap.size ≤ w2.heap.size := HB_2.out.size
  have hz_2 : w1.heap.size ≤ w2.heap.size := by rw [← hW]; simp [World.setCell]
  clear hW x_1 y_1 Ka_1 Kb_1 Kr_1 HB_1 p10 p11 p12 p13 l1 p20 p21 p22 p23 l2 r20 r21 r22 r23
  refine Calls.mono (q_add x_2.out y_2.out hk hl h1 h1') ?_
  rintro e w3 ⟨v, rfl, h, hb⟩
  rw [← HS.out] at h
  obtain ⟨b3, A3, n3, c3, d3, B3, m3, k3, rfl, -, -, -, h1, h2⟩ := h.form
  have hB := hb
  have Ka_3 := Lib.hid (Ka_2.out.below hB)
  have Kb_3 := Lib.hid (Kb_2.out.below hB)
  have Kr_3 := Lib.hid (Kr_2.out.below hB)
  have z_3 := Lib.hid (h1)
  have z2_3 := Lib.hid (h2)
  have HB_3 := Lib.hid (below_trans HB_2.out hB)
  have hs_3 : w.heap.size ≤ w3.heap.size := HB_3.out.size
  have hz_3 : w2.heap.size + 0 ≤ w3.heap.size := (by have h := hb.size; (try simp at h); omega)
  clear hB hb x_2 y_2 Ka_2 Kb_2 Kr_2 HB_2
  obtain ⟨p30, p31, p32, p33, l3⟩ := Kr_3.out.use4
  obtain ⟨r30, r31, r32, r33⟩ := Kr_3.out.into4
  go_wp2
  obtain ⟨WF, hWF⟩ : ∃ W, W = ((((w3.setCell ⟨w.heap.size + 1 + 1, 0, none⟩ (.bool b3)).setCell ⟨w.heap.size + 1 + 1, 1, none⟩ (.slice A3 n3 c3)).setCell ⟨w.heap.size + 1 + 1, 2, none⟩ (.bool d3)).setCell ⟨w.heap.size + 1 + 1, 3, none⟩ (.slice B3 m3 k3)) := ⟨_, rfl⟩
  rw [← hWF]
  have kq : Blk WF (w.heap.size + 1 + 1) 27 #[.bool b3, .slice A3 n3 c3, .bool d3, .slice B3 m3 k3] := by rw [hWF]; exact Kr_3.out.own4
  have hBF : Below w.heap.size w WF := by rw [hWF]; exact Below.set4 (HB_3.out) (by first | omega | (simp; omega) | simp)
  have f1 : IsInt WF (.agg #[.bool b3, .slice A3 n3 c3]) (x - y).num := by rw [hWF]; exact z_3.out.other4 Kr_3.out nu nu nu nu
  have f2 : IsInt WF (.agg #[.bool d3, .slice B3 m3 k3]) ((x - y).den : Int) := by rw [hWF]; exact z2_3.out.other4 Kr_3.out nu nu nu nu
  have HE : Hid (RatPost w WF (Ending.returned (.agg #[.bool b3, .slice A3 n3 c3, .bool d3, .slice B3 m3 k3])) (x - y)) := ⟨_, rfl, ⟨_, _, _, _, rfl, f1, f2⟩, hBF⟩
  obtain ⟨e0, e1, e2, e3⟩ := kq.cells4
  clear hWF
  exact bodyPost_ret (v := .agg #[.bool b3, .slice A3 n3 c3, .bool d3, .slice B3 m3 k3]) (by simp [results, Tryz.results74, go_sem, e0, e1, e2, e3] <;> omega) rfl HE.out

theorem q_sub {k l : Nat} {w : World} {v v' : Value} {x y : Rat} (hx : LimQ k w v x) (hy : LimQ l w v' y) (hk : k ≤ 40000) (hl : l ≤ 40000) (h1 : 1 ≤ k) (h1' : 1 ≤ l) : Calls Tryz.prog 74 #[v, v'] w fun e w' => RatPost w w' e (x - y) := by
  have Hx := hx
  have Hy := hy
  obtain ⟨X, Y, hx, rfl⟩ := hx
  obtain ⟨X', Y', hy, rfl⟩ := hy
  obtain ⟨b, A, n, c, b', A', n', c', rfl, -, -⟩ := hx.form
  obtain ⟨p, P, m, d, p', P', m', d', rfl, -, -⟩ := hy.form
  exact q_sub0 b A n c b' A' n' c' p P m d p' P' m' d' w k l _ _ Hx Hy hk hl h1 h1'

def QDivPost (w w' : World) (e : Ending) (x y : Rat) : Prop := ∃ v, e = .returned (.tuple #[v, .bool (decide (y ≠ 0))]) ∧ IsRat w' v (x / y) ∧ Below w.heap.size w w'
theorem LimP.zero {k : Nat} {w : World} {b b' : Bool} {m m' : Value} {q : Rat} (h : LimP k w (.agg #[.bool b, m, .bool b', m']) q) : ∃ X Y, LimI k w (.agg #[.bool b, m]) X ∧ LimI k w (.agg #[.bool b', m']) Y ∧ 0 < Y ∧ q = Rat.divInt X Y ∧ (X = 0 ↔ q = 0) := by
  obtain ⟨X, Y, h1, h2, hY, rfl⟩ := h.parts
  refine ⟨X, Y, h1, h2, hY, rfl, ?_⟩
  obtain ⟨e1, e2, hg⟩ := divInt_parts X hY
  rw [← Rat.num_eq_zero]
  constructor
  · intro h0
    have e4 := e1.trans h0
    rcases Int.mul_eq_zero.1 e4 with h | h
    · exact h
    · omega
  · intro h0
    rw [h0, Int.zero_mul] at e1
    exact e1.symm

set_option maxRecDepth 100000 in
set_option maxHeartbeats 2000000 in
theorem q_div_no (b : Bool) (A : Option Addr) (n c : Nat) (b' : Bool) (A' : Option Addr) (n' c' : Nat) (p : Bool) (P : Option Addr) (m d : Nat) (p' : Bool) (P' : Option Addr) (m' d' : Nat) (w : World) (k l : Nat) (x y : Rat) (hx : LimQ k w (.agg #[.bool b, .slice A n c, .bool b', .slice A' n' c']) x) (hy : LimQ l w (.agg #[.bool p, .slice P m d, .bool p', .slice P' m' d']) y) (hk : k ≤ 20000) (hl : l ≤ 20000) (h1 : 1 ≤ k) (h1' : 1 ≤ l) (hy0 : y = 0) :
    Calls Tryz.prog 96 #[(.agg #[.bool b, .slice A n c, .bool b', .slice A' n' c']), (.agg #[.bool p, .slice P m d, .bool p', .slice P' m' d'])] w fun e w' => QDivPost w w' e x y := by
  have x_0 := Lib.hid hx
  have y_0 := Lib.hid hy
  clear hx hy
  have HY0 := Lib.hid hy0
  clear hy0
  go_enter Tryz.func96, Tryz.ntmps96
  go_wp2_with fail
  refine Calls.mono (q_taken (((y_0.out.alloc_ _).alloc_ _).alloc_ _) (by omega) h1') ?_
  rintro e w1 ⟨v, rfl, h, hb⟩
  obtain ⟨b1, A1, n1, c1, d1, B1, m1, k1, rfl, h⟩ := h.form
  obtain ⟨X, Y, s1, s2, hY, ey, hz⟩ := h.zero
  have EY := Lib.hid ey
  have HZ := Lib.hid hz
  clear ey hz h
  have hB := bun (bun (bun (hb)))
  have x_1 := Lib.hid (x_0.out.below hB)
  have Ka_1 := Lib.hid (show Blk w1 (w.heap.size) 27 #[.bool b, .slice A n c, .bool b', .slice A' n' c'] from (((Blk.new _ _ (by simp) _ _).alloc_ _).alloc_ _).below hb)
  have Kb_1 := Lib.hid (show Blk w1 (w.heap.size + 1) 27 #[.bool p, .slice P m d, .bool p', .slice P' m' d'] from ((Blk.new _ _ (by simp) _ _).alloc_ _).below hb)
  have Kr_1 := Lib.hid (show Blk w1 (w.heap.size + 1 + 1) 27 #[.bool false, .slice none 0 0, .bool false, .slice none 0 0] from (Blk.new _ _ (by simp) _ _).below hb)
  have s_1 := Lib.hid (s1)
  have t_1 := Lib.hid (s2)
  have HB_1 := Lib.hid (hB)
  have hs_1 : w.heap.size ≤ w1.heap.size := HB_1.out.size
  have hz_1 : w.heap.size + 3 ≤ w1.heap.size := (by have h := hb.size; (try simp at h); omega)
  clear hB hb x_0 y_0
  obtain ⟨p10, p11, p12, p13, l1⟩ := Kb_1.out.use4
  obtain ⟨r10, r11, r12, r13⟩ := Kb_1.out.into4
  go_wp2_with fail
  generalize hW : ((((w1.setCell ⟨w.heap.size + 1, 0, none⟩ (.bool b1)).setCell ⟨w.heap.size + 1, 1, none⟩ (.slice A1 n1 c1)).setCell ⟨w.heap.size + 1, 2, none⟩ (.bool d1)).setCell ⟨w.heap.size + 1, 3, none⟩ (.slice B1 m1 k1)) = w2
  have x_2 := Lib.hid (by have h := ((((x_1.out.one Kb_1.out (i := 0) (x := .bool p) (y := .bool b1) rfl nu).one (Kb_1.out.set_ 0 (.bool b1)) (i := 1) (x := .slice P m d) (y := .slice A1 n1 c1) rfl nu).one ((Kb_1.out.set_ 0 (.bool b1)).set_ 1 (.slice A1 n1 c1)) (i := 2) (x := .bool p') (y := .bool d1) rfl nu).one (((Kb_1.out.set_ 0 (.bool b1)).set_ 1 (.slice A1 n1 c1)).set_ 2 (.bool d1)) (i := 3) (x := .slice P' m' d') (y := .slice B1 m1 k1) rfl nu); rw [hW] at h; exact h)
  have s_2 := Lib.hid (by have h := ((((s_1.out.one Kb_1.out (i := 0) (x := .bool p) (y := .bool b1) rfl nu).one (Kb_1.out.set_ 0 (.bool b1)) (i := 1) (x := .slice P m d) (y := .slice A1 n1 c1) rfl nu).one ((Kb_1.out.set_ 0 (.bool b1)).set_ 1 (.slice A1 n1 c1)) (i := 2) (x := .bool p') (y := .bool d1) rfl nu).one (((Kb_1.out.set_ 0 (.bool b1)).set_ 1 (.slice A1 n1 c1)).set_ 2 (.bool d1)) (i := 3) (x := .slice P' m' d') (y := .slice B1 m1 k1) rfl nu); rw [hW] at h; exact h)
  have t_2 := Lib.hid (by have h := ((((t_1.out.one Kb_1.out (i := 0) (x := .bool p) (y := .bool b1) rfl nu).one (Kb_1.out.set_ 0 (.bool b1)) (i := 1) (x := .slice P m d) (y := .slice A1 n1 c1) rfl nu).one ((Kb_1.out.set_ 0 (.bool b1)).set_ 1 (.slice A1 n1 c1)) (i := 2) (x := .bool p') (y := .bool d1) rfl nu).one (((Kb_1.out.set_ 0 (.bool b1)).set_ 1 (.slice A1 n1 c1)).set_ 2 (.bool d1)) (i := 3) (x := .slice P' m' d') (y := .slice B1 m1 k1) rfl nu); rw [hW] at h; exact h)
  have Ka_2 := Lib.hid (show Blk w2 (w.heap.size) 27 #[.bool b, .slice A n c, .bool b', .slice A' n' c'] from by rw [← hW]; exact ((((Ka_1.out.other (by omega) 0 (.bool b1)).other (by omega) 1 (.slice A1 n1 c1)).other (by omega) 2 (.bool d1)).other (by omega) 3 (.slice B1 m1 k1)))
  have Kb_2 := Lib.hid (show Blk w2 (w.heap.size + 1) 27 #[.bool b1, .slice A1 n1 c1, .bool d1, .slice B1 m1 k1] from by rw [← hW]; exact ((((Kb_1.out.set_ 0 (.bool b1)).set_ 1 (.slice A1 n1 c1)).set_ 2 (.bool d1)).set_ 3 (.slice B1 m1 k1)))
  have Kr_2 := Lib.hid (show Blk w2 (w.heap.size + 1 + 1) 27 #[.bool false, .slice none 0 0, .bool false, .slice none 0 0] from by rw [← hW]; exact ((((Kr_1.out.other (by omega) 0 (.bool b1)).other (by omega) 1 (.slice A1 n1 c1)).other (by omega) 2 (.bool d1)).other (by omega) 3 (.slice B1 m1 k1)))
  have HB_2 := Lib.hid (show Below w.heap.size w w2 from by rw [← hW]; exact (bset (bset (bset (bset HB_1.out (by omega)) (by omega)) (by omega)) (by omega)))
  have hs_2 : w.heap.size ≤ w2.heap.size := HB_2.out.size
  have hz_2 : w1.heap.size ≤ w2.heap.size := by rw [← hW]; simp [World.setCell]
  clear hW x_1 s_1 t_1 Ka_1 Kb_1 Kr_1 HB_1 p10 p11 p12 p13 l1 r10 r11 r12 r13
  obtain ⟨p20, p21, p22, p23, l2⟩ := Kb_2.out.use4
  obtain ⟨p30, p31, p32, p33, l3⟩ := Ka_2.out.use4
  refine Calls.mono (isZero_true _ _ _ _ _ X _ s_2.out (by omega) (HZ.out.2 HY0.out)) ?_
  rintro e w3 ⟨rfl, hb⟩
  have hB := hb
  have x_3 := Lib.hid (x_2.out.below hB)
  have s_3 := Lib.hid (s_2.out.below hB)
  have t_3 := Lib.hid (t_2.out.below hB)
  have Ka_3 := Lib.hid (Ka_2.out.below hB)
  have Kb_3 := Lib.hid (Kb_2.out.below hB)
  have Kr_3 := Lib.hid (Kr_2.out.below hB)
  have HB_3 := Lib.hid (below_trans HB_2.out hB)
  have hs_3 : w.heap.size ≤ w3.heap.size := HB_3.out.size
  have hz_3 : w2.heap.size + 0 ≤ w3.heap.size := (by have h := hb.size; (try simp at h); omega)
  clear hB hb x_2 s_2 t_2 Ka_2 Kb_2 Kr_2 HB_2 p20 p21 p22 p23 l2 p30 p31 p32 p33 l3
  go_wp2_with fail
  refine Calls.mono (zero_any _) ?_
  rintro e w4 ⟨v, rfl, h, hb⟩
  obtain ⟨b4, A4, n4, c4, d4, B4, m4, k4, rfl, -, -, -, h1, h2⟩ := h.form
  have hB := hb
  have x_4 := Lib.hid (x_3.out.below hB)
  have s_4 := Lib.hid (s_3.out.below hB)
  have t_4 := Lib.hid (t_3.out.below hB)
  have Ka_4 := Lib.hid (Ka_3.out.below hB)
  have Kb_4 := Lib.hid (Kb_3.out.below hB)
  have Kr_4 := Lib.hid (Kr_3.out.below hB)
  have z_4 := Lib.hid (h1)
  have z2_4 := Lib.hid (h2)
  have HB_4 := Lib.hid (below_trans HB_3.out hB)
  have hs_4 : w.heap.size ≤ w4.heap.size := HB_4.out.size
  have hz_4 : w3.heap.size + 0 ≤ w4.heap.size := (by have h := hb.size; (try simp at h); omega)
  clear hB hb x_3 s_3 t_3 Ka_3 Kb_3 Kr_3 HB_3
  obtain ⟨p40, p41, p42, p43, l4⟩ := Kr_4.out.use4
  obtain ⟨r40, r41, r42, r43⟩ := Kr_4.out.into4
  go_wp2
  obtain ⟨WF, hWF⟩ : ∃ W, W = ((((w4.setCell ⟨w.heap.size + 1 + 1, 0, none⟩ (.bool b4)).setCell ⟨w.heap.size + 1 + 1, 1, none⟩ (.slice A4 n4 c4)).setCell ⟨w.heap.size + 1 + 1, 2, none⟩ (.bool d4)).setCell ⟨w.heap.size + 1 + 1, 3, none⟩ (.slice B4 m4 k4)) := ⟨_, rfl⟩
  rw [← hWF]
  have kq : Blk WF (w.heap.size + 1 + 1) 27 #[.bool b4, .slice A4 n4 c4, .bool d4, .slice B4 m4 k4] := by rw [hWF]; exact Kr_4.out.own4
  have hBF : Below w.heap.size w WF := by rw [hWF]; exact Below.set4 (HB_4.out) (by first | omega | (simp; omega) | simp)
  have f1 : IsInt WF (.agg #[.bool b4, .slice A4 n4 c4]) (0 : Rat).num := by rw [hWF]; exact z_4.out.other4 Kr_4.out nu nu nu nu
  have f2 : IsInt WF (.agg #[.bool d4, .slice B4 m4 k4]) ((0 : Rat).den : Int) := by rw [hWF]; exact z2_4.out.other4 Kr_4.out nu nu nu nu
  have HE : Hid (QDivPost w WF (Ending.returned (.tuple #[.agg #[.bool b4, .slice A4 n4 c4, .bool d4, .slice B4 m4 k4], .bool false])) x y) := ⟨_, by rw [decide_eq_false (by rw [HY0.out]; exact fun h => h rfl)], ⟨_, _, _, _, rfl, by rw [HY0.out, Rat.div_def, Rat.inv_zero, Rat.mul_zero]; exact f1, by rw [HY0.out, Rat.div_def, Rat.inv_zero, Rat.mul_zero]; exact f2⟩, hBF⟩
  obtain ⟨e0, e1, e2, e3⟩ := kq.cells4
  clear hWF
  exact bodyPost_ret (v := .tuple #[.agg #[.bool b4, .slice A4 n4 c4, .bool d4, .slice B4 m4 k4], .bool false]) (by simp [results, Tryz.results96, go_sem, e0, e1, e2, e3] <;> omega) rfl HE.out

set_option maxRecDepth 100000 in
set_option maxHeartbeats 2000000 in
theorem q_div_yes (b : Bool) (A : Option Addr) (n c : Nat) (b' : Bool) (A' : Option Addr) (n' c' : Nat) (p : Bool) (P : Option Addr) (m d : Nat) (p' : Bool) (P' : Option Addr) (m' d' : Nat) (w : World) (k l : Nat) (x y : Rat) (hx : LimQ k w (.agg #[.bool b, .slice A n c, .bool b', .slice A' n' c']) x) (hy : LimQ l w (.agg #[.bool p, .slice P m d, .bool p', .slice P' m' d']) y) (hk : k ≤ 20000) (hl : l ≤ 20000) (h1 : 1 ≤ k) (h1' : 1 ≤ l) (hy0 : y ≠ 0) :
    Calls Tryz.prog 96 #[(.agg #[.bool b, .slice A n c, .bool b', .slice A' n' c']), (.agg #[.bool p, .slice P m d, .bool p', .slice P' m' d'])] w fun e w' => QDivPost w w' e x y := by
  have x_0 := Lib.hid hx
  have y_0 := Lib.hid hy
  clear hx hy
  have HY0 := Lib.hid hy0
  clear hy0
  go_enter Tryz.func96, Tryz.ntmps96
  go_wp2_with fail
  refine Calls.mono (q_taken (((y_0.out.alloc_ _).alloc_ _).alloc_ _) (by omega) h1') ?_
  rintro e w1 ⟨v, rfl, h, hb⟩
  obtain ⟨b1, A1, n1, c1, d1, B1, m1, k1, rfl, h⟩ := h.form
  obtain ⟨X, Y, s1, s2, hY, ey, hz⟩ := h.zero
  have EY := Lib.hid ey
  have HZ := Lib.hid hz
  clear ey hz h
  have hB := bun (bun (bun (hb)))
  have x_1 := Lib.hid (x_0.out.below hB)
  have Ka_1 := Lib.hid (show Blk w1 (w.heap.size) 27 #[.bool b, .slice A n c, .bool b', .slice A' n' c'] from (((Blk.new _ _ (by simp) _ _).alloc_ _).alloc_ _).below hb)
  have Kb_1 := Lib.hid (show Blk w1 (w.heap.size + 1) 27 #[.bool p, .slice P m d, .bool p', .slice P' m' d'] from ((Blk.new _ _ (by simp) _ _).alloc_ _).below hb)
  have Kr_1 := Lib.hid (show Blk w1 (w.heap.size + 1 + 1) 27 #[.bool false, .slice none 0 0, .bool false, .slice none 0 0] from (Blk.new _ _ (by simp) _ _).below hb)
  have s_1 := Lib.hid (s1)
  have t_1 := Lib.hid (s2)
  have HB_1 := Lib.hid (hB)
  have hs_1 : w.heap.size ≤ w1.heap.size := HB_1.out.size
  have hz_1 : w.heap.size + 3 ≤ w1.heap.size := (by have h := hb.size; (try simp at h); omega)
  clear hB hb x_0 y_0
  obtain ⟨p10, p11, p12, p13, l1⟩ := Kb_1.out.use4
  obtain ⟨r10, r11, r12, r13⟩ := Kb_1.out.into4
  go_wp2_with fail
  generalize hW : ((((w1.setCell ⟨w.heap.size + 1, 0, none⟩ (.bool b1)).setCell ⟨w.heap.size + 1, 1, none⟩ (.slice A1 n1 c1)).setCell ⟨w.heap.size + 1, 2, none⟩ (.bool d1)).setCell ⟨w.heap.size + 1, 3, none⟩ (.slice B1 m1 k1)) = w2
  have x_2 := Lib.hid (by have h := ((((x_1.out.one Kb_1.out (i := 0) (x := .bool p) (y := .bool b1) rfl nu).one (Kb_1.out.set_ 0 (.bool b1)) (i := 1) (x := .slice P m d) (y := .slice A1 n1 c1) rfl nu).one ((Kb_1.out.set_ 0 (.bool b1)).set_ 1 (.slice A1 n1 c1)) (i := 2) (x := .bool p') (y := .bool d1) rfl nu).one (((Kb_1.out.set_ 0 (.bool b1)).set_ 1 (.slice A1 n1 c1)).set_ 2 (.bool d1)) (i := 3) (x := .slice P' m' d') (y := .slice B1 m1 k1) rfl nu); rw [hW] at h; exact h)
  have s_2 := Lib.hid (by have h := ((((s_1.out.one Kb_1.out (i := 0) (x := .bool p) (y := .bool b1) rfl nu).one (Kb_1.out.set_ 0 (.bool b1)) (i := 1) (x := .slice P m d) (y := .slice A1 n1 c1) rfl nu).one ((Kb_1.out.set_ 0 (.bool b1)).set_ 1 (.slice A1 n1 c1)) (i := 2) (x := .bool p') (y := .bool d1) rfl nu).one (((Kb_1.out.set_ 0 (.bool b1)).set_ 1 (.slice A1 n1 c1)).set_ 2 (.bool d1)) (i := 3) (x := .slice P' m' d') (y := .slice B1 m1 k1) rfl nu); rw [hW] at h; exact h)
  have t_2 := Lib.hid (by have h := ((((t_1.out.one Kb_1.out (i := 0) (x := .bool p) (y := .bool b1) rfl nu).one (Kb_1.out.set_ 0 (.bool b1)) (i := 1) (x := .slice P m d) (y := .slice A1 n1 c1) rfl nu).one ((Kb_1.out.set_ 0 (.bool b1)).set_ 1 (.slice A1 n1 c1)) (i := 2) (x := .bool p') (y := .bool d1) rfl nu).one (((Kb_1.out.set_ 0 (.bool b1)).set_ 1 (.slice A1 n1 c1)).set_ 2 (.bool d1)) (i := 3) (x := .slice P' m' d') (y := .slice B1 m1 k1) rfl nu); rw [hW] at h; exact h)
  have Ka_2 := Lib.hid (show Blk w2 (w.heap.size) 27 #[.bool b, .slice A n c, .bool b', .slice A' n' c'] from by rw [← hW]; exact ((((Ka_1.out.other (by omega) 0 (.bool b1)).other (by omega) 1 (.slice A1 n1 c1)).other (by omega) 2 (.bool d1)).other (by omega) 3 (.slice B1 m1 k1)))
  have Kb_2 := Lib.hid (show Blk w2 (w.heap.size + 1) 27 #[.bool b1, .slice A1 n1 c1, .bool d1, .slice B1 m1 k1] from by rw [← hW]; exact ((((Kb_1.out.set_ 0 (.bool b1)).set_ 1 (.slice A1 n1 c1)).set_ 2 (.bool d1)).set_ 3 (.slice B1 m1 k1)))
  have Kr_2 := Lib.hid (show Blk w2 (w.heap.size + 1 + 1) 27 #[.bool false, .slice none 0 0, .bool false, .slice none 0 0] from by rw [← hW]; exact ((((Kr_1.out.other (by omega) 0 (.bool b1)).other (by omega) 1 (.slice A1 n1 c1)).other (by omega) 2 (.bool d1)).other (by omega) 3 (.slice B1 m1 k1)))
  have HB_2 := Lib.hid (show Below w.heap.size w w2 from by rw [← hW]; exact (bset (bset (bset (bset HB_1.out (by omega)) (by omega)) (by omega)) (by omega)))
  have hs_2 : w.heap.size ≤ w2.heap.size := HB_2.out.size
  have hz_2 : w1.heap.size ≤ w2.heap.size := by rw [← hW]; simp [World.setCell]
  clear hW x_1 s_1 t_1 Ka_1 Kb_1 Kr_1 HB_1 p10 p11 p12 p13 l1 r10 r11 r12 r13
  obtain ⟨p20, p21, p22, p23, l2⟩ := Kb_2.out.use4
  obtain ⟨p30, p31, p32, p33, l3⟩ := Ka_2.out.use4
  refine Calls.mono (isZero_false _ _ _ _ _ X _ s_2.out (by omega) (fun h => HY0.out (HZ.out.1 h))) ?_
  rintro e w3 ⟨rfl, hb⟩
  have hB := hb
  have x_3 := Lib.hid (x_2.out.below hB)
  have s_3 := Lib.hid (s_2.out.below hB)
  have t_3 := Lib.hid (t_2.out.below hB)
  have Ka_3 := Lib.hid (Ka_2.out.below hB)
  have Kb_3 := Lib.hid (Kb_2.out.below hB)
  have Kr_3 := Lib.hid (Kr_2.out.below hB)
  have HB_3 := Lib.hid (below_trans HB_2.out hB)
  have hs_3 : w.heap.size ≤ w3.heap.size := HB_3.out.size
  have hz_3 : w2.heap.size + 0 ≤ w3.heap.size := (by have h := hb.size; (try simp at h); omega)
  clear hB hb x_2 s_2 t_2 Ka_2 Kb_2 Kr_2 HB_2 p20 p21 p22 p23 l2 p30 p31 p32 p33 l3
  obtain ⟨p40, p41, p42, p43, l4⟩ := Ka_3.out.use4
  obtain ⟨p50, p51, p52, p53, l5⟩ := Kb_3.out.use4
  have HX0 : Hid (X ≠ 0) := fun h => HY0.out (HZ.out.1 h)
  go_wp2_with fail
  refine Calls.mono (q_mul (x_3.out.alloc_ _) (over_q (s_3.out.alloc_ _) (t_3.out.alloc_ _) HX0.out hY) (by omega) (by omega) h1 h1') ?_
  rintro e w4 ⟨v, rfl, h, hb⟩
  rw [← EY.out, ← Rat.div_def] at h
  obtain ⟨b4, A4, n4, c4, d4, B4, m4, k4, rfl, -, -, -, h1, h2⟩ := h.form
  have hB := bun (hb)
  have x_4 := Lib.hid (x_3.out.below hB)
  have s_4 := Lib.hid (s_3.out.below hB)
  have t_4 := Lib.hid (t_3.out.below hB)
  have Ka_4 := Lib.hid (Ka_3.out.below hB)
  have Kb_4 := Lib.hid (Kb_3.out.below hB)
  have Kr_4 := Lib.hid (Kr_3.out.below hB)
  have Ko_4 := Lib.hid (show Blk w4 (w3.heap.size) 27 #[.bool b1, .slice B1 m1 k1, .bool false, .slice A1 n1 c1] from (Blk.new _ _ (by simp) _ _).below hb)
  have z_4 := Lib.hid (h1)
  have z2_4 := Lib.hid (h2)
  have HB_4 := Lib.hid (below_trans HB_3.out hB)
  have hs_4 : w.heap.size ≤ w4.heap.size := HB_4.out.size
  have hz_4 : w3.heap.size + 1 ≤ w4.heap.size := (by have h := hb.size; (try simp at h); omega)
  clear hB hb x_3 s_3 t_3 Ka_3 Kb_3 Kr_3 HB_3 p40 p41 p42 p43 l4 p50 p51 p52 p53 l5
  obtain ⟨p60, p61, p62, p63, l6⟩ := Kr_4.out.use4
  obtain ⟨r60, r61, r62, r63⟩ := Kr_4.out.into4
  go_wp2
  obtain ⟨WF, hWF⟩ : ∃ W, W = ((((w4.setCell ⟨w.heap.size + 1 + 1, 0, none⟩ (.bool b4)).setCell ⟨w.heap.size + 1 + 1, 1, none⟩ (.slice A4 n4 c4)).setCell ⟨w.heap.size + 1 + 1, 2, none⟩ (.bool d4)).setCell ⟨w.heap.size + 1 + 1, 3, none⟩ (.slice B4 m4 k4)) := ⟨_, rfl⟩
  rw [← hWF]
  have kq : Blk WF (w.heap.size + 1 + 1) 27 #[.bool b4, .slice A4 n4 c4, .bool d4, .slice B4 m4 k4] := by rw [hWF]; exact Kr_4.out.own4
  have hBF : Below w.heap.size w WF := by rw [hWF]; exact Below.set4 (HB_4.out) (by first | omega | (simp; omega) | simp)
  have f1 : IsInt WF (.agg #[.bool b4, .slice A4 n4 c4]) (x / y).num := by rw [hWF]; exact z_4.out.other4 Kr_4.out nu nu nu nu
  have f2 : IsInt WF (.agg #[.bool d4, .slice B4 m4 k4]) ((x / y).den : Int) := by rw [hWF]; exact z2_4.out.other4 Kr_4.out nu nu nu nu
  have HE : Hid (QDivPost w WF (Ending.returned (.tuple #[.agg #[.bool b4, .slice A4 n4 c4, .bool d4, .slice B4 m4 k4], .bool true])) x y) := ⟨_, by rw [decide_eq_true HY0.out], ⟨_, _, _, _, rfl, f1, f2⟩, hBF⟩
  obtain ⟨e0, e1, e2, e3⟩ := kq.cells4
  clear hWF
  exact bodyPost_ret (v := .tuple #[.agg #[.bool b4, .slice A4 n4 c4, .bool d4, .slice B4 m4 k4], .bool true]) (by simp [results, Tryz.results96, go_sem, e0, e1, e2, e3] <;> omega) rfl HE.out

theorem q_div0 (b : Bool) (A : Option Addr) (n c : Nat) (b' : Bool) (A' : Option Addr) (n' c' : Nat) (p : Bool) (P : Option Addr) (m d : Nat) (p' : Bool) (P' : Option Addr) (m' d' : Nat) (w : World) (k l : Nat) (x y : Rat) (hx : LimQ k w (.agg #[.bool b, .slice A n c, .bool b', .slice A' n' c']) x) (hy : LimQ l w (.agg #[.bool p, .slice P m d, .bool p', .slice P' m' d']) y) (hk : k ≤ 20000) (hl : l ≤ 20000) (h1 : 1 ≤ k) (h1' : 1 ≤ l) : Calls Tryz.prog 96 #[(.agg #[.bool b, .slice A n c, .bool b', .slice A' n' c']), (.agg #[.bool p, .slice P m d, .bool p', .slice P' m' d'])] w fun e w' => QDivPost w w' e x y := by
  by_cases h : y = 0
  · exact q_div_no b A n c b' A' n' c' p P m d p' P' m' d' w k l x y hx hy hk hl h1 h1' h
  · exact q_div_yes b A n c b' A' n' c' p P m d p' P' m' d' w k l x y hx hy hk hl h1 h1' h

theorem q_div {k l : Nat} {w : World} {v v' : Value} {x y : Rat} (hx : LimQ k w v x) (hy : LimQ l w v' y) (hk : k ≤ 20000) (hl : l ≤ 20000) (h1 : 1 ≤ k) (h1' : 1 ≤ l) : Calls Tryz.prog 96 #[v, v'] w fun e w' => QDivPost w w' e x y := by
  have Hx := hx
  have Hy := hy
  obtain ⟨X, Y, hx, rfl⟩ := hx
  obtain ⟨X', Y', hy, rfl⟩ := hy
  obtain ⟨b, A, n, c, b', A', n', c', rfl, -, -⟩ := hx.form
  obtain ⟨p, P, m, d, p', P', m', d', rfl, -, -⟩ := hy.form
  exact q_div0 b A n c b' A' n' c' p P m d p' P' m' d' w k l _ _ Hx Hy hk hl h1 h1'

theorem IsInt.limk {w : World} {v : Value} {Z : Int} (h : IsInt w v Z) (h1 : -9223372036854775808 ≤ Z) (h2 : Z ≤ 9223372036854775807) : LimI 2 w v Z := h.lim (by
    have : (4294967296 : Nat) ^ 2 = 18446744073709551616 := by decide
    omega)

def RatOfPost (w w' : World) (e : Ending) (q : Rat) (ok : Bool) : Prop := ∃ v, e = .returned (.tuple #[v, .bool ok]) ∧ IsRat w' v q ∧ Below w.heap.size w w'

end Go.Proofs.YtebdmidghidaeaaGreat
