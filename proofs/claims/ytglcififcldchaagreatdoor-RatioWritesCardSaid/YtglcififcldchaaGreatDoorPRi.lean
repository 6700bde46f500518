/- Contracts of ratio: parts, Floor, Ceil, Frac, Text. -/
import Derived.Test.YtglcififcldchaaGreatDoorPRh
namespace Go.Proofs.YtglcififcldchaaGreatDoor
open Go.RowKit
attribute [local go_sem ↓] Go.wp_at_zero Go.wp_at_succ
set_option linter.unusedVariables false

theorem FDiv.pos {X Y q r : Int} (h : FDiv X Y q r) (hY : 0 < Y) : q = X / Y ∧ r = X % Y ∧ 0 ≤ r ∧ r < Y := by
  obtain ⟨h1, h2⟩ := h
  have h3 : 0 ≤ r ∧ r < Y := by omega
  have e : X / Y = q ∧ X % Y = r := by
    rw [Int.ediv_emod_unique hY]
    refine ⟨?_, h3.1, h3.2⟩
    rw [Int.mul_comm] at h1; omega
  exact ⟨e.1.symm, e.2.symm, h3.1, h3.2⟩
theorem floor_divInt {X Y : Int} (hY : 0 < Y) : (Rat.divInt X Y).floor = X / Y := by
  obtain ⟨e1, e2, hg⟩ := divInt_parts X hY
  rw [Rat.floor_def]
  generalize (Rat.divInt X Y).num = a at *
  generalize ((Rat.divInt X Y).den : Int) = b at *
  generalize Int.gcd X Y = g at *
  rw [← e1, ← e2, Int.mul_ediv_mul_of_pos_left _ _ (by omega)]
theorem int_divInt (z : Int) : (z : Rat) = Rat.divInt z 1 := by
  have := Rat.num_divInt_den (z : Rat)
  rw [Rat.num_intCast, Rat.den_intCast] at this
  exact this.symm
theorem frac_divInt {X Y : Int} (hY : 0 < Y) : Rat.divInt (X % Y) Y = Rat.divInt X Y - ((Rat.divInt X Y).floor : Rat) := by
  rw [floor_divInt hY]
  rw [int_divInt, Rat.divInt_sub_divInt _ _ (by omega) (by omega), Int.mul_one, Int.mul_one]
  congr 1
  have := Int.emod_add_mul_ediv X Y
  rw [Int.mul_comm (X / Y)]
  omega

theorem floor_lt {k : Nat} {q : Rat} (h : BQ k q) : q.floor.natAbs < 4294967296 ^ (k + 1) := by
  have h1 := h.1
  have h2 := den_pos' q
  rw [Rat.floor_def]
  have h3 : (q.num / (q.den : Int)).natAbs ≤ q.num.natAbs := Int.natAbs_ediv_le_natAbs _ _
  have h4 : (4294967296 : Nat) ^ k ≤ 4294967296 ^ (k + 1) := Nat.pow_le_pow_right (by omega) (by omega)
  omega
def PartsPost (k : Nat) (w w' : World) (e : Ending) (q : Rat) : Prop := ∃ v u, e = .returned (.tuple #[v, u]) ∧ IsInt w' v q.floor ∧ LimP k w' u (q - (q.floor : Rat)) ∧ Below w.heap.size w w'

theorem parts_mk {k : Nat} {w w' : World} {X Y q r : Int} {v : Value} {b b' : Bool} {m m' : Value} (hf : FDiv X Y q r) (hY : 0 < Y) (hy : Y.natAbs < 4294967296 ^ k) (h1 : IsInt w' v q) (h2 : IsInt w' (.agg #[.bool b, m]) r) (h3 : LimI k w' (.agg #[.bool b', m']) Y) (hb : Below w.heap.size w w') :
    PartsPost k w w' (.returned (.tuple #[v, .agg #[.bool b, m, .bool b', m']])) (Rat.divInt X Y) := by
  obtain ⟨e1, e2, e3, e4⟩ := hf.pos hY
  refine ⟨_, _, rfl, ?_, ⟨r, Y, limR_mk (h2.lim (by omega)) h3, hY, ?_⟩, hb⟩
  · rw [floor_divInt hY, ← e1]; exact h1
  · rw [← frac_divInt hY, ← e2]

set_option maxRecDepth 100000 in
set_option maxHeartbeats 4000000 in
theorem parts_any (b : Bool) (A : Option Addr) (n c : Nat) (b' : Bool) (A' : Option Addr) (n' c' : Nat) (w : World) (k : Nat) (X Y : Int) (hx : LimI k w (.agg #[.bool b, .slice A n c]) X) (hy : LimI k w (.agg #[.bool b', .slice A' n' c']) Y) (hk : k ≤ 100000) (hY : 0 < Y) :
    Calls Tryz.prog 73 #[(.agg #[.bool b, .slice A n c, .bool b', .slice A' n' c'])] w fun e w' => PartsPost k w w' e (Rat.divInt X Y) := by
  have By := Lib.hid hy.lt
  have x_0 := Lib.hid hx
  have y_0 := Lib.hid hy
  have HY := Lib.hid hY
  clear hx hy hY
  go_enter Tryz.func73, Tryz.ntmps73
  go_wp2_with fail
  refine Calls.mono (li_div (((x_0.out.alloc_ _).alloc_ _).alloc_ _) (((y_0.out.alloc_ _).alloc_ _).alloc_ _) (by omega) (by omega) (by have := HY.out; omega)) ?_
  rintro e w1 ⟨vq, vr, q, r, rfl, hf, h, h2, hb⟩
  obtain ⟨b1, A1, n1, c1, rfl, -, -, h⟩ := h.form
  obtain ⟨d1, B1, m1, k1, rfl, -, -, h2⟩ := h2.form
  have HF := Lib.hid hf
  clear hf
  have hB := bun (bun (bun (hb)))
  have y_1 := Lib.hid (y_0.out.below hB)
  have Ka_1 := Lib.hid (show Blk w1 (w.heap.size) 26 #[.bool b, .slice A n c, .bool b', .slice A' n' c'] from (((Blk.new _ _ (by simp) _ _).alloc_ _).alloc_ _).below hb)
  have Kq_1 := Lib.hid (show Blk w1 (w.heap.size + 1) 24 #[.bool false, .slice none 0 0] from ((Blk.new _ _ (by simp) _ _).alloc_ _).below hb)
  have Kf_1 := Lib.hid (show Blk w1 (w.heap.size + 1 + 1) 26 #[.bool false, .slice none 0 0, .bool false, .slice none 0 0] from (Blk.new _ _ (by simp) _ _).below hb)
  have q_1 := Lib.hid (h)
  have r_1 := Lib.hid (h2)
  have HB_1 := Lib.hid (hB)
  have hs_1 : w.heap.size ≤ w1.heap.size := HB_1.out.size
  have hz_1 : w.heap.size + 3 ≤ w1.heap.size := (by have h := hb.size; (try simp at h); omega)
  clear hB hb x_0 y_0
  obtain ⟨p10, p11, p12, p13, l1⟩ := Ka_1.out.use4
  obtain ⟨p20, p21, l2⟩ := Kq_1.out.use2
  obtain ⟨r20, r21⟩ := Kq_1.out.into2
  obtain ⟨p30, p31, p32, p33, l3⟩ := Kf_1.out.use4
  obtain ⟨r30, r31, r32, r33⟩ := Kf_1.out.into4
  go_upto_region 2 with fail
  generalize hW : ((w1.setCell ⟨w.heap.size + 1, 0, none⟩ (.bool b1)).setCell ⟨w.heap.size + 1, 1, none⟩ (.slice A1 n1 c1)) = w2
  have y_2 := Lib.hid (by have h := ((y_1.out.one Kq_1.out (i := 0) (x := .bool false) (y := .bool b1) rfl nu).one (Kq_1.out.set_ 0 (.bool b1)) (i := 1) (x := .slice none 0 0) (y := .slice A1 n1 c1) rfl nu); rw [hW] at h; exact h)
  have q_2 := Lib.hid (by have h := ((q_1.out.one Kq_1.out (i := 0) (x := .bool false) (y := .bool b1) rfl nu).one (Kq_1.out.set_ 0 (.bool b1)) (i := 1) (x := .slice none 0 0) (y := .slice A1 n1 c1) rfl nu); rw [hW] at h; exact h)
  have r_2 := Lib.hid (by have h := ((r_1.out.one Kq_1.out (i := 0) (x := .bool false) (y := .bool b1) rfl nu).one (Kq_1.out.set_ 0 (.bool b1)) (i := 1) (x := .slice none 0 0) (y := .slice A1 n1 c1) rfl nu); rw [hW] at h; exact h)
  have Ka_2 := Lib.hid (show Blk w2 (w.heap.size) 26 #[.bool b, .slice A n c, .bool b', .slice A' n' c'] from by rw [← hW]; exact ((Ka_1.out.other (by omega) 0 (.bool b1)).other (by omega) 1 (.slice A1 n1 c1)))
  have Kq_2 := Lib.hid (show Blk w2 (w.heap.size + 1) 24 #[.bool b1, .slice A1 n1 c1] from by rw [← hW]; exact ((Kq_1.out.set_ 0 (.bool b1)).set_ 1 (.slice A1 n1 c1)))
  have Kf_2 := Lib.hid (show Blk w2 (w.heap.size + 1 + 1) 26 #[.bool false, .slice none 0 0, .bool false, .slice none 0 0] from by rw [← hW]; exact ((Kf_1.out.other (by omega) 0 (.bool b1)).other (by omega) 1 (.slice A1 n1 c1)))
  have HB_2 := Lib.hid (show Below w.heap.size w w2 from by rw [← hW]; exact (bset (bset HB_1.out (by omega)) (by omega)))
  have hs_2 : w.heap.size ≤ w2.heap.size := HB_2.out.size
  have hz_2 : w1.heap.size ≤ w2.heap.size := by rw [← hW]; simp [World.setCell]
  have hq_2 := Lib.hid (show w2.heap.size = w1.heap.size from by rw [← hW]; simp [World.setCell])
  clear hW y_1 q_1 r_1 Ka_1 Kq_1 Kf_1 HB_1 p10 p11 p12 p13 l1 p20 p21 l2 r20 r21 p30 p31 p32 p33 l3 r30 r31 r32 r33
  generalize hW : (w2.alloc (.cells #[.bool d1, .slice B1 m1 k1] 24)) = w3
  have y_3 := Lib.hid (hW ▸ (y_2.out.alloc_ _))
  have q_3 := Lib.hid (hW ▸ (q_2.out.alloc_ _))
  have r_3 := Lib.hid (hW ▸ (r_2.out.alloc_ _))
  have Ka_3 := Lib.hid (show Blk w3 (w.heap.size) 26 #[.bool b, .slice A n c, .bool b', .slice A' n' c'] from by rw [← hW]; exact (Ka_2.out.alloc_ _))
  have Kq_3 := Lib.hid (show Blk w3 (w.heap.size + 1) 24 #[.bool b1, .slice A1 n1 c1] from by rw [← hW]; exact (Kq_2.out.alloc_ _))
  have Kf_3 := Lib.hid (show Blk w3 (w.heap.size + 1 + 1) 26 #[.bool false, .slice none 0 0, .bool false, .slice none 0 0] from by rw [← hW]; exact (Kf_2.out.alloc_ _))
  have Ks_3 := Lib.hid (show Blk w3 (w1.heap.size) 24 #[.bool d1, .slice B1 m1 k1] from by rw [← hW]; exact Blk.new _ _ (hq_2.out.symm) _ _)
  have HB_3 := Lib.hid (show Below w.heap.size w w3 from by rw [← hW]; exact halloc (HB_2.out))
  have hs_3 : w.heap.size ≤ w3.heap.size := HB_3.out.size
  have hz_3 : w2.heap.size + 1 ≤ w3.heap.size := by rw [← hW]; simp
  clear hW y_2 q_2 r_2 Ka_2 Kq_2 Kf_2 HB_2
  obtain ⟨p40, p41, p42, p43, l4⟩ := Ka_3.out.use4
  obtain ⟨p50, p51, l5⟩ := Kq_3.out.use2
  obtain ⟨p60, p61, l6⟩ := Ks_3.out.use2
  obtain ⟨p70, p71, l7⟩ := Kq_3.out.use2
  obtain ⟨r70, r71⟩ := Kq_3.out.into2
  obtain ⟨p80, p81, p82, p83, l8⟩ := Kf_3.out.use4
  obtain ⟨r80, r81, r82, r83⟩ := Kf_3.out.into4
  go_region
  go_wp2
  obtain ⟨WF, hWF⟩ : ∃ W, W = ((((((w3.setCell ⟨w.heap.size + 1, 0, none⟩ (.bool b1)).setCell ⟨w.heap.size + 1, 1, none⟩ (.slice A1 n1 c1)).setCell ⟨w.heap.size + 1 + 1, 0, none⟩ (.bool d1)).setCell ⟨w.heap.size + 1 + 1, 1, none⟩ (.slice B1 m1 k1)).setCell ⟨w.heap.size + 1 + 1, 2, none⟩ (.bool b')).setCell ⟨w.heap.size + 1 + 1, 3, none⟩ (.slice A' n' c')).drew := ⟨_, rfl⟩
  rw [← hWF]
  have kq0 : Blk WF (w.heap.size + 1) 24 #[.bool b1, .slice A1 n1 c1] := by rw [hWF]; exact ((((((Kq_3.out.set_ 0 (.bool b1)).set_ 1 (.slice A1 n1 c1)).other (by omega) 0 (.bool d1)).other (by omega) 1 (.slice B1 m1 k1)).other (by omega) 2 (.bool b')).other (by omega) 3 (.slice A' n' c')).drew_
  obtain ⟨e00, e01⟩ := kq0.cells2
  have kq1 : Blk WF (w.heap.size + 1 + 1) 26 #[.bool d1, .slice B1 m1 k1, .bool b', .slice A' n' c'] := by rw [hWF]; exact ((((((Kf_3.out.other (by omega) 0 (.bool b1)).other (by omega) 1 (.slice A1 n1 c1)).set_ 0 (.bool d1)).set_ 1 (.slice B1 m1 k1)).set_ 2 (.bool b')).set_ 3 (.slice A' n' c')).drew_
  obtain ⟨e10, e11, e12, e13⟩ := kq1.cells4
  have hBF : Below w.heap.size w WF := by rw [hWF]; exact (bset (bset (bset (bset (bset (bset HB_3.out (by omega)) (by omega)) (by omega)) (by omega)) (by omega)) (by omega)).drew
  have fq : IsInt WF (.agg #[.bool b1, .slice A1 n1 c1]) q := by rw [hWF]; exact ((((((q_3.out.one Kq_3.out (i := 0) (x := .bool b1) (y := .bool b1) rfl nu).one (Kq_3.out.set_ 0 (.bool b1)) (i := 1) (x := .slice A1 n1 c1) (y := .slice A1 n1 c1) rfl nu).one ((Kf_3.out.other (by omega) 0 (.bool b1)).other (by omega) 1 (.slice A1 n1 c1)) (i := 0) (x := .bool false) (y := .bool d1) rfl nu).one (((Kf_3.out.other (by omega) 0 (.bool b1)).other (by omega) 1 (.slice A1 n1 c1)).set_ 0 (.bool d1)) (i := 1) (x := .slice none 0 0) (y := .slice B1 m1 k1) rfl nu).one ((((Kf_3.out.other (by omega) 0 (.bool b1)).other (by omega) 1 (.slice A1 n1 c1)).set_ 0 (.bool d1)).set_ 1 (.slice B1 m1 k1)) (i := 2) (x := .bool false) (y := .bool b') rfl nu).one (((((Kf_3.out.other (by omega) 0 (.bool b1)).other (by omega) 1 (.slice A1 n1 c1)).set_ 0 (.bool d1)).set_ 1 (.slice B1 m1 k1)).set_ 2 (.bool b')) (i := 3) (x := .slice none 0 0) (y := .slice A' n' c') rfl nu).drew_
  have fr : IsInt WF (.agg #[.bool d1, .slice B1 m1 k1]) r := by rw [hWF]; exact ((((((r_3.out.one Kq_3.out (i := 0) (x := .bool b1) (y := .bool b1) rfl nu).one (Kq_3.out.set_ 0 (.bool b1)) (i := 1) (x := .slice A1 n1 c1) (y := .slice A1 n1 c1) rfl nu).one ((Kf_3.out.other (by omega) 0 (.bool b1)).other (by omega) 1 (.slice A1 n1 c1)) (i := 0) (x := .bool false) (y := .bool d1) rfl nu).one (((Kf_3.out.other (by omega) 0 (.bool b1)).other (by omega) 1 (.slice A1 n1 c1)).set_ 0 (.bool d1)) (i := 1) (x := .slice none 0 0) (y := .slice B1 m1 k1) rfl nu).one ((((Kf_3.out.other (by omega) 0 (.bool b1)).other (by omega) 1 (.slice A1 n1 c1)).set_ 0 (.bool d1)).set_ 1 (.slice B1 m1 k1)) (i := 2) (x := .bool false) (y := .bool b') rfl nu).one (((((Kf_3.out.other (by omega) 0 (.bool b1)).other (by omega) 1 (.slice A1 n1 c1)).set_ 0 (.bool d1)).set_ 1 (.slice B1 m1 k1)).set_ 2 (.bool b')) (i := 3) (x := .slice none 0 0) (y := .slice A' n' c') rfl nu).drew_
  have fy : LimI k WF (.agg #[.bool b', .slice A' n' c']) Y := by rw [hWF]; exact ((((((y_3.out.one Kq_3.out (i := 0) (x := .bool b1) (y := .bool b1) rfl nu).one (Kq_3.out.set_ 0 (.bool b1)) (i := 1) (x := .slice A1 n1 c1) (y := .slice A1 n1 c1) rfl nu).one ((Kf_3.out.other (by omega) 0 (.bool b1)).other (by omega) 1 (.slice A1 n1 c1)) (i := 0) (x := .bool false) (y := .bool d1) rfl nu).one (((Kf_3.out.other (by omega) 0 (.bool b1)).other (by omega) 1 (.slice A1 n1 c1)).set_ 0 (.bool d1)) (i := 1) (x := .slice none 0 0) (y := .slice B1 m1 k1) rfl nu).one ((((Kf_3.out.other (by omega) 0 (.bool b1)).other (by omega) 1 (.slice A1 n1 c1)).set_ 0 (.bool d1)).set_ 1 (.slice B1 m1 k1)) (i := 2) (x := .bool false) (y := .bool b') rfl nu).one (((((Kf_3.out.other (by omega) 0 (.bool b1)).other (by omega) 1 (.slice A1 n1 c1)).set_ 0 (.bool d1)).set_ 1 (.slice B1 m1 k1)).set_ 2 (.bool b')) (i := 3) (x := .slice none 0 0) (y := .slice A' n' c') rfl nu).drew_
  have HE : Hid (PartsPost k w WF (Ending.returned (.tuple #[.agg #[.bool b1, .slice A1 n1 c1], .agg #[.bool d1, .slice B1 m1 k1, .bool b', .slice A' n' c']])) (Rat.divInt X Y)) := parts_mk HF.out HY.out By.out fq fr fy hBF
  clear hWF
  exact bodyPost_ret (v := .tuple #[.agg #[.bool b1, .slice A1 n1 c1], .agg #[.bool d1, .slice B1 m1 k1, .bool b', .slice A' n' c']]) (by simp [results, Tryz.results73, go_sem, e00, e01, e10, e11, e12, e13] <;> omega) rfl HE.out

theorem p_parts {k : Nat} {w : World} {v : Value} {q : Rat} (h : LimP k w v q) (hk : k ≤ 100000) : Calls Tryz.prog 73 #[v] w fun e w' => PartsPost k w w' e q := by
  obtain ⟨b, A, n, c, b', A', n', c', rfl, h⟩ := h.form
  obtain ⟨X, Y, h1, h2, hY, rfl⟩ := h.parts
  exact parts_any b A n c b' A' n' c' w k X Y h1 h2 hk hY

set_option maxRecDepth 100000 in
set_option maxHeartbeats 1000000 in
theorem floor_q0 (b : Bool) (A : Option Addr) (n c : Nat) (b' : Bool) (A' : Option Addr) (n' c' : Nat) (w : World) (k : Nat) (q : Rat) (hx : LimQ k w (.agg #[.bool b, .slice A n c, .bool b', .slice A' n' c']) q) (hk : k ≤ 100000) (h1 : 1 ≤ k) :
    Calls Tryz.prog 33 #[(.agg #[.bool b, .slice A n c, .bool b', .slice A' n' c'])] w fun e w' => IntPost w w' e q.floor := by
  have x_0 := Lib.hid hx
  clear hx
  go_enter Tryz.func33, Tryz.ntmps33
  go_wp2_with fail
  refine Calls.mono (q_taken ((x_0.out.alloc_ _).alloc_ _) (by omega) h1) ?_
  rintro e w1 ⟨v, rfl, h, hb⟩
  have hB := bun (bun (hb))
  have Ka_1 := Lib.hid (show Blk w1 (w.heap.size) 26 #[.bool b, .slice A n c, .bool b', .slice A' n' c'] from ((Blk.new _ _ (by simp) _ _).alloc_ _).below hb)
  have Kr_1 := Lib.hid (show Blk w1 (w.heap.size + 1) 24 #[.bool false, .slice none 0 0] from (Blk.new _ _ (by simp) _ _).below hb)
  have t_1 := Lib.hid (h)
  have HB_1 := Lib.hid (hB)
  have hs_1 : w.heap.size ≤ w1.heap.size := HB_1.out.size
  have hz_1 : w.heap.size + 2 ≤ w1.heap.size := (by have h := hb.size; (try simp at h); omega)
  clear hB hb x_0
  go_wp2_with fail
  refine Calls.mono (p_parts t_1.out hk) ?_
  rintro e w2 ⟨v, u, rfl, h, h2, hb⟩
  obtain ⟨b2, A2, n2, c2, rfl, -, -, h⟩ := h.form
  obtain ⟨d2, B2, m2, k2, d'2, B'2, m'2, k'2, rfl, h2⟩ := h2.form
  have hB := hb
  have Ka_2 := Lib.hid (Ka_1.out.below hB)
  have Kr_2 := Lib.hid (Kr_1.out.below hB)
  have f_2 := Lib.hid (h)
  have g_2 := Lib.hid (h2)
  have HB_2 := Lib.hid (below_trans HB_1.out hB)
  have hs_2 : w.heap.size ≤ w2.heap.size := HB_2.out.size
  have hz_2 : w1.heap.size + 0 ≤ w2.heap.size := (by have h := hb.size; (try simp at h); omega)
  clear hB hb t_1 Ka_1 Kr_1 HB_1
  obtain ⟨z0, z1, zl⟩ := (show Blk ((w2.alloc (.cells #[.bool b2, .slice A2 n2 c2] 24)).alloc (.cells #[.bool d2, .slice B2 m2 k2, .bool d'2, .slice B'2 m'2 k'2] 26)) (w.heap.size + 1) 24 #[.bool false, .slice none 0 0] from ((Kr_2.out.alloc_ _).alloc_ _)).use2
  obtain ⟨y0, y1⟩ := (show Blk ((w2.alloc (.cells #[.bool b2, .slice A2 n2 c2] 24)).alloc (.cells #[.bool d2, .slice B2 m2 k2, .bool d'2, .slice B'2 m'2 k'2] 26)) (w.heap.size + 1) 24 #[.bool false, .slice none 0 0] from ((Kr_2.out.alloc_ _).alloc_ _)).into2
  go_wp2
  obtain ⟨WF, hWF⟩ : ∃ W, W = ((((w2.alloc (.cells #[.bool b2, .slice A2 n2 c2] 24)).alloc (.cells #[.bool d2, .slice B2 m2 k2, .bool d'2, .slice B'2 m'2 k'2] 26)).setCell ⟨w.heap.size + 1, 0, none⟩ (.bool b2)).setCell ⟨w.heap.size + 1, 1, none⟩ (.slice A2 n2 c2)) := ⟨_, rfl⟩
  rw [← hWF]
  have kq : Blk WF (w.heap.size + 1) 24 #[.bool b2, .slice A2 n2 c2] := by rw [hWF]; exact ((Kr_2.out.alloc_ _).alloc_ _).own2
  have hBF : Below w.heap.size w WF := by rw [hWF]; exact Below.set2 (halloc (halloc (HB_2.out))) (by first | omega | (simp; omega) | simp)
  have f1 : IsInt WF (.agg #[.bool b2, .slice A2 n2 c2]) q.floor := by rw [hWF]; exact ((f_2.out.alloc_ _).alloc_ _).otherW ((Kr_2.out.alloc_ _).alloc_ _) nu nu
  have HE : Hid (IntPost w WF (Ending.returned (.agg #[.bool b2, .slice A2 n2 c2])) q.floor) := ⟨_, rfl, f1, hBF⟩
  obtain ⟨e0, e1⟩ := kq.cells2
  clear hWF
  exact bodyPost_ret (v := .agg #[.bool b2, .slice A2 n2 c2]) (by simp [results, Tryz.results33, go_sem, e0, e1] <;> omega) rfl HE.out

set_option maxRecDepth 100000 in
set_option maxHeartbeats 1000000 in
theorem frac_q0 (b : Bool) (A : Option Addr) (n c : Nat) (b' : Bool) (A' : Option Addr) (n' c' : Nat) (w : World) (k : Nat) (q : Rat) (hx : LimQ k w (.agg #[.bool b, .slice A n c, .bool b', .slice A' n' c']) q) (hk : k ≤ 100000) (h1 : 1 ≤ k) :
    Calls Tryz.prog 31 #[(.agg #[.bool b, .slice A n c, .bool b', .slice A' n' c'])] w fun e w' => RatPost w w' e (q - (q.floor : Rat)) := by
  have x_0 := Lib.hid hx
  clear hx
  go_enter Tryz.func31, Tryz.ntmps31
  go_wp2_with fail
  refine Calls.mono (q_taken ((x_0.out.alloc_ _).alloc_ _) (by omega) h1) ?_
  rintro e w1 ⟨v, rfl, h, hb⟩
  have hB := bun (bun (hb))
  have Ka_1 := Lib.hid (show Blk w1 (w.heap.size) 26 #[.bool b, .slice A n c, .bool b', .slice A' n' c'] from ((Blk.new _ _ (by simp) _ _).alloc_ _).below hb)
  have Kr_1 := Lib.hid (show Blk w1 (w.heap.size + 1) 26 #[.bool false, .slice none 0 0, .bool false, .slice none 0 0] from (Blk.new _ _ (by simp) _ _).below hb)
  have t_1 := Lib.hid (h)
  have HB_1 := Lib.hid (hB)
  have hs_1 : w.heap.size ≤ w1.heap.size := HB_1.out.size
  have hz_1 : w.heap.size + 2 ≤ w1.heap.size := (by have h := hb.size; (try simp at h); omega)
  clear hB hb x_0
  go_wp2_with fail
  refine Calls.mono (p_parts t_1.out hk) ?_
  rintro e w2 ⟨v, u, rfl, h, h2, hb⟩
  obtain ⟨b2, A2, n2, c2, rfl, -, -, h⟩ := h.form
  obtain ⟨d2, B2, m2, k2, d'2, B'2, m'2, k'2, rfl, h2⟩ := h2.form
  have hB := hb
  have Ka_2 := Lib.hid (Ka_1.out.below hB)
  have Kr_2 := Lib.hid (Kr_1.out.below hB)
  have f_2 := Lib.hid (h)
  have g_2 := Lib.hid (h2)
  have HB_2 := Lib.hid (below_trans HB_1.out hB)
  have hs_2 : w.heap.size ≤ w2.heap.size := HB_2.out.size
  have hz_2 : w1.heap.size + 0 ≤ w2.heap.size := (by have h := hb.size; (try simp at h); omega)
  clear hB hb t_1 Ka_1 Kr_1 HB_1
  go_wp2_with fail
  refine Calls.mono (p_lowest ((g_2.out.alloc_ _).alloc_ _) hk) ?_
  rintro e w3 ⟨v, rfl, h, hb⟩
  obtain ⟨b3, A3, n3, c3, d3, B3, m3, k3, rfl, -, -, -, h1, h2⟩ := h.form
  have hB := bun (bun (hb))
  have f_3 := Lib.hid (f_2.out.below hB)
  have g_3 := Lib.hid (g_2.out.below hB)
  have Ka_3 := Lib.hid (Ka_2.out.below hB)
  have Kr_3 := Lib.hid (Kr_2.out.below hB)
  have Kq_3 := Lib.hid (show Blk w3 (w2.heap.size) 24 #[.bool b2, .slice A2 n2 c2] from ((Blk.new _ _ (by simp) _ _).alloc_ _).below hb)
  have Kf_3 := Lib.hid (show Blk w3 (w2.heap.size + 1) 26 #[.bool d2, .slice B2 m2 k2, .bool d'2, .slice B'2 m'2 k'2] from (Blk.new _ _ (by simp) _ _).below hb)
  have z_3 := Lib.hid (h1)
  have z2_3 := Lib.hid (h2)
  have HB_3 := Lib.hid (below_trans HB_2.out hB)
  have hs_3 : w.heap.size ≤ w3.heap.size := HB_3.out.size
  have hz_3 : w2.heap.size + 2 ≤ w3.heap.size := (by have h := hb.size; (try simp at h); omega)
  clear hB hb f_2 g_2 Ka_2 Kr_2 HB_2
  obtain ⟨p10, p11, p12, p13, l1⟩ := Kr_3.out.use4
  obtain ⟨r10, r11, r12, r13⟩ := Kr_3.out.into4
  go_wp2
  obtain ⟨WF, hWF⟩ : ∃ W, W = ((((w3.setCell ⟨w.heap.size + 1, 0, none⟩ (.bool b3)).setCell ⟨w.heap.size + 1, 1, none⟩ (.slice A3 n3 c3)).setCell ⟨w.heap.size + 1, 2, none⟩ (.bool d3)).setCell ⟨w.heap.size + 1, 3, none⟩ (.slice B3 m3 k3)) := ⟨_, rfl⟩
  rw [← hWF]
  have kq : Blk WF (w.heap.size + 1) 26 #[.bool b3, .slice A3 n3 c3, .bool d3, .slice B3 m3 k3] := by rw [hWF]; exact Kr_3.out.own4
  have hBF : Below w.heap.size w WF := by rw [hWF]; exact Below.set4 (HB_3.out) (by first | omega | (simp; omega) | simp)
  have f1 : IsInt WF (.agg #[.bool b3, .slice A3 n3 c3]) (q - (q.floor : Rat)).num := by rw [hWF]; exact z_3.out.other4 Kr_3.out nu nu nu nu
  have f2 : IsInt WF (.agg #[.bool d3, .slice B3 m3 k3]) ((q - (q.floor : Rat)).den : Int) := by rw [hWF]; exact z2_3.out.other4 Kr_3.out nu nu nu nu
  have HE : Hid (RatPost w WF (Ending.returned (.agg #[.bool b3, .slice A3 n3 c3, .bool d3, .slice B3 m3 k3])) (q - (q.floor : Rat))) := ⟨_, rfl, ⟨_, _, _, _, rfl, f1, f2⟩, hBF⟩
  obtain ⟨e0, e1, e2, e3⟩ := kq.cells4
  clear hWF
  exact bodyPost_ret (v := .agg #[.bool b3, .slice A3 n3 c3, .bool d3, .slice B3 m3 k3]) (by simp [results, Tryz.results31, go_sem, e0, e1, e2, e3] <;> omega) rfl HE.out

set_option maxRecDepth 100000 in
set_option maxHeartbeats 4000000 in
theorem ceil_q0 (b : Bool) (A : Option Addr) (n c : Nat) (b' : Bool) (A' : Option Addr) (n' c' : Nat) (w : World) (k : Nat) (q : Rat) (hx : LimQ k w (.agg #[.bool b, .slice A n c, .bool b', .slice A' n' c']) q) (hk : k ≤ 100000) (h1 : 1 ≤ k) (hz : q - (q.floor : Rat) = 0) :
    Calls Tryz.prog 35 #[(.agg #[.bool b, .slice A n c, .bool b', .slice A' n' c'])] w fun e w' => IntPost w w' e (q.floor) := by
  have x_0 := Lib.hid hx
  clear hx
  have HZ0 := Lib.hid hz
  have BQ0 : Hid (q.floor.natAbs < 4294967296 ^ (k + 1)) := by
    show _ < _
    have := (x_0.out).bq h1
    exact floor_lt this
  clear hz
  go_enter Tryz.func35, Tryz.ntmps35
  go_wp2_with fail
  refine Calls.mono (q_taken ((x_0.out.alloc_ _).alloc_ _) (by omega) h1) ?_
  rintro e w1 ⟨v, rfl, h, hb⟩
  have hB := bun (bun (hb))
  have Ka_1 := Lib.hid (show Blk w1 (w.heap.size) 26 #[.bool b, .slice A n c, .bool b', .slice A' n' c'] from ((Blk.new _ _ (by simp) _ _).alloc_ _).below hb)
  have Kr_1 := Lib.hid (show Blk w1 (w.heap.size + 1) 24 #[.bool false, .slice none 0 0] from (Blk.new _ _ (by simp) _ _).below hb)
  have t_1 := Lib.hid (h)
  have HB_1 := Lib.hid (hB)
  have hs_1 : w.heap.size ≤ w1.heap.size := HB_1.out.size
  have hz_1 : w.heap.size + 2 ≤ w1.heap.size := (by have h := hb.size; (try simp at h); omega)
  clear hB hb x_0
  go_wp2_with fail
  refine Calls.mono (p_parts t_1.out hk) ?_
  rintro e w2 ⟨v, u, rfl, h, h2, hb⟩
  obtain ⟨b2, A2, n2, c2, rfl, -, -, h⟩ := h.form
  obtain ⟨d2, B2, m2, k2, d'2, B'2, m'2, k'2, rfl, h2⟩ := h2.form
  obtain ⟨X, Y, s1, s2, hY, ey, hz⟩ := h2.zero
  have HZ := Lib.hid hz
  clear ey hz h2 s2
  have hB := hb
  have Ka_2 := Lib.hid (Ka_1.out.below hB)
  have Kr_2 := Lib.hid (Kr_1.out.below hB)
  have f_2 := Lib.hid (h)
  have s_2 := Lib.hid (s1)
  have HB_2 := Lib.hid (below_trans HB_1.out hB)
  have hs_2 : w.heap.size ≤ w2.heap.size := HB_2.out.size
  have hz_2 : w1.heap.size + 0 ≤ w2.heap.size := (by have h := hb.size; (try simp at h); omega)
  clear hB hb t_1 Ka_1 Kr_1 HB_1
  go_wp2_with fail
  refine Calls.mono (isZero_true _ _ _ _ k X _ ((s_2.out.alloc_ _).alloc_ _) (by omega) (HZ.out.2 HZ0.out)) ?_
  rintro e w3 ⟨rfl, hb⟩
  have hB := bun (bun (hb))
  have f_3 := Lib.hid (f_2.out.below hB)
  have s_3 := Lib.hid (s_2.out.below hB)
  have Ka_3 := Lib.hid (Ka_2.out.below hB)
  have Kr_3 := Lib.hid (Kr_2.out.below hB)
  have Kq_3 := Lib.hid (show Blk w3 (w2.heap.size) 24 #[.bool b2, .slice A2 n2 c2] from ((Blk.new _ _ (by simp) _ _).alloc_ _).below hb)
  have Kf_3 := Lib.hid (show Blk w3 (w2.heap.size + 1) 26 #[.bool d2, .slice B2 m2 k2, .bool d'2, .slice B'2 m'2 k'2] from (Blk.new _ _ (by simp) _ _).below hb)
  have HB_3 := Lib.hid (below_trans HB_2.out hB)
  have hs_3 : w.heap.size ≤ w3.heap.size := HB_3.out.size
  have hz_3 : w2.heap.size + 2 ≤ w3.heap.size := (by have h := hb.size; (try simp at h); omega)
  clear hB hb f_2 s_2 Ka_2 Kr_2 HB_2
  obtain ⟨p10, p11, l1⟩ := Kq_3.out.use2
  obtain ⟨p20, p21, l2⟩ := Kr_3.out.use2
  obtain ⟨r20, r21⟩ := Kr_3.out.into2
  go_wp2
  obtain ⟨WF, hWF⟩ : ∃ W, W = ((w3.setCell ⟨w.heap.size + 1, 0, none⟩ (.bool b2)).setCell ⟨w.heap.size + 1, 1, none⟩ (.slice A2 n2 c2)) := ⟨_, rfl⟩
  rw [← hWF]
  have kq : Blk WF (w.heap.size + 1) 24 #[.bool b2, .slice A2 n2 c2] := by rw [hWF]; exact Kr_3.out.own2
  have hBF : Below w.heap.size w WF := by rw [hWF]; exact Below.set2 (HB_3.out) (by first | omega | (simp; omega) | simp)
  have f1 : IsInt WF (.agg #[.bool b2, .slice A2 n2 c2]) (q.floor) := by rw [hWF]; exact f_3.out.otherW Kr_3.out nu nu
  have HE : Hid (IntPost w WF (Ending.returned (.agg #[.bool b2, .slice A2 n2 c2])) (q.floor)) := ⟨_, rfl, f1, hBF⟩
  obtain ⟨e0, e1⟩ := kq.cells2
  clear hWF
  exact bodyPost_ret (v := .agg #[.bool b2, .slice A2 n2 c2]) (by simp [results, Tryz.results35, go_sem, e0, e1] <;> omega) rfl HE.out

set_option maxRecDepth 100000 in
set_option maxHeartbeats 4000000 in
theorem ceil_q1 (b : Bool) (A : Option Addr) (n c : Nat) (b' : Bool) (A' : Option Addr) (n' c' : Nat) (w : World) (k : Nat) (q : Rat) (hx : LimQ k w (.agg #[.bool b, .slice A n c, .bool b', .slice A' n' c']) q) (hk : k ≤ 100000) (h1 : 1 ≤ k) (hz : q - (q.floor : Rat) ≠ 0) :
    Calls Tryz.prog 35 #[(.agg #[.bool b, .slice A n c, .bool b', .slice A' n' c'])] w fun e w' => IntPost w w' e (q.floor + 1) := by
  have x_0 := Lib.hid hx
  clear hx
  have HZ0 := Lib.hid hz
  have BQ0 : Hid (q.floor.natAbs < 4294967296 ^ (k + 1)) := by
    show _ < _
    have := (x_0.out).bq h1
    exact floor_lt this
  clear hz
  go_enter Tryz.func35, Tryz.ntmps35
  go_wp2_with fail
  refine Calls.mono (q_taken ((x_0.out.alloc_ _).alloc_ _) (by omega) h1) ?_
  rintro e w1 ⟨v, rfl, h, hb⟩
  have hB := bun (bun (hb))
  have Ka_1 := Lib.hid (show Blk w1 (w.heap.size) 26 #[.bool b, .slice A n c, .bool b', .slice A' n' c'] from ((Blk.new _ _ (by simp) _ _).alloc_ _).below hb)
  have Kr_1 := Lib.hid (show Blk w1 (w.heap.size + 1) 24 #[.bool false, .slice none 0 0] from (Blk.new _ _ (by simp) _ _).below hb)
  have t_1 := Lib.hid (h)
  have HB_1 := Lib.hid (hB)
  have hs_1 : w.heap.size ≤ w1.heap.size := HB_1.out.size
  have hz_1 : w.heap.size + 2 ≤ w1.heap.size := (by have h := hb.size; (try simp at h); omega)
  clear hB hb x_0
  go_wp2_with fail
  refine Calls.mono (p_parts t_1.out hk) ?_
  rintro e w2 ⟨v, u, rfl, h, h2, hb⟩
  obtain ⟨b2, A2, n2, c2, rfl, -, -, h⟩ := h.form
  obtain ⟨d2, B2, m2, k2, d'2, B'2, m'2, k'2, rfl, h2⟩ := h2.form
  obtain ⟨X, Y, s1, s2, hY, ey, hz⟩ := h2.zero
  have HZ := Lib.hid hz
  clear ey hz h2 s2
  have hB := hb
  have Ka_2 := Lib.hid (Ka_1.out.below hB)
  have Kr_2 := Lib.hid (Kr_1.out.below hB)
  have f_2 := Lib.hid (h)
  have s_2 := Lib.hid (s1)
  have HB_2 := Lib.hid (below_trans HB_1.out hB)
  have hs_2 : w.heap.size ≤ w2.heap.size := HB_2.out.size
  have hz_2 : w1.heap.size + 0 ≤ w2.heap.size := (by have h := hb.size; (try simp at h); omega)
  clear hB hb t_1 Ka_1 Kr_1 HB_1
  go_wp2_with fail
  refine Calls.mono (isZero_false _ _ _ _ k X _ ((s_2.out.alloc_ _).alloc_ _) (by omega) (fun h => HZ0.out (HZ.out.1 h))) ?_
  rintro e w3 ⟨rfl, hb⟩
  have hB := bun (bun (hb))
  have f_3 := Lib.hid (f_2.out.below hB)
  have Ka_3 := Lib.hid (Ka_2.out.below hB)
  have Kr_3 := Lib.hid (Kr_2.out.below hB)
  have Kq_3 := Lib.hid (show Blk w3 (w2.heap.size) 24 #[.bool b2, .slice A2 n2 c2] from ((Blk.new _ _ (by simp) _ _).alloc_ _).below hb)
  have Kf_3 := Lib.hid (show Blk w3 (w2.heap.size + 1) 26 #[.bool d2, .slice B2 m2 k2, .bool d'2, .slice B'2 m'2 k'2] from (Blk.new _ _ (by simp) _ _).below hb)
  have HB_3 := Lib.hid (below_trans HB_2.out hB)
  have hs_3 : w.heap.size ≤ w3.heap.size := HB_3.out.size
  have hz_3 : w2.heap.size + 2 ≤ w3.heap.size := (by have h := hb.size; (try simp at h); omega)
  clear hB hb f_2 s_2 Ka_2 Kr_2 HB_2
  go_wp2
  obtain ⟨p10, p11, l1⟩ := Kq_3.out.use2
  have tok0 : True := trivial
  have tok1 : True := trivial
  go_region_held3 (fun w' => w'.cell? ⟨w2.heap.size, 0, none⟩ = some (.bool b2) ∧ w'.cell? ⟨w2.heap.size, 1, none⟩ = some (.slice A2 n2 c2)) (first | (refine ⟨?_, ?_⟩ <;> (first | with_reducible assumption | ((with_reducible refine Eq.trans (cell_drew _ _) ?_); with_reducible assumption) | ((rw [cell_far4 _ _ _ _ _ _ _ _ (by omega)]); with_reducible assumption) | ((rw [cell_far2 _ _ _ _ _ _ (by omega)]); with_reducible assumption) | go_keep)) | trivial | go_keep)
    (first
      | (go_at_call 72; have _t := tok0; clear _t tok0; ((with_reducible refine Calls.mono (of_any 1 _ (by omega) (by omega)) ?_)); rintro e w4 ⟨v, rfl, h, hb⟩; obtain ⟨b4, A4, n4, c4, rfl, -, -, h⟩ := h.form; have hB := (show Below w3.heap.size w3 w4 from by first | exact hb | exact bundrew hb | exact bun hb | exact bundrew (bun hb) | exact bun (bundrew hb)); have f_4 := Lib.hid (f_3.out.below hB); have Ka_4 := Lib.hid (Ka_3.out.below hB); have Kr_4 := Lib.hid (Kr_3.out.below hB); have Kq_4 := Lib.hid (Kq_3.out.below hB); have Kf_4 := Lib.hid (Kf_3.out.below hB); have o_4 := Lib.hid (h); have HB_4 := Lib.hid (below_trans HB_3.out hB); have hs_4 : w.heap.size ≤ w4.heap.size := HB_4.out.size; have hz_4 : w3.heap.size + 0 ≤ w4.heap.size := (by have h := hb.size; (try simp at h); omega); clear hB hb f_3 Ka_3 Kr_3 Kq_3 Kf_3 HB_3 p10 p11 l1; obtain ⟨p20, p21, l2⟩ := Kq_4.out.use2)
      | (go_at_call 65; have _t := tok1; clear _t tok1; ((with_reducible refine Calls.mono (li_add (IsInt.lim (k := k + 1) (by first | exact f_4.out | exact f_4.out.drew_ | exact f_4.out.alloc_ _ | exact (f_4.out.alloc_ _).drew_) BQ0.out) (IsInt.lim (k := 1) (by first | exact o_4.out | exact o_4.out.drew_ | exact o_4.out.alloc_ _ | exact (o_4.out.alloc_ _).drew_) (by decide)) (by omega) (by omega)) ?_)); rintro e w5 ⟨v, rfl, h, hb⟩; obtain ⟨b5, A5, n5, c5, rfl, -, -, h⟩ := h.form; have hB := (show Below w4.heap.size w4 w5 from by first | exact hb | exact bundrew hb | exact bun hb | exact bundrew (bun hb) | exact bun (bundrew hb)); have f_5 := Lib.hid (f_4.out.below hB); have o_5 := Lib.hid (o_4.out.below hB); have Ka_5 := Lib.hid (Ka_4.out.below hB); have Kr_5 := Lib.hid (Kr_4.out.below hB); have Kq_5 := Lib.hid (Kq_4.out.below hB); have Kf_5 := Lib.hid (Kf_4.out.below hB); have s_5 := Lib.hid (h); have HB_5 := Lib.hid (below_trans HB_4.out hB); have hs_5 : w.heap.size ≤ w5.heap.size := HB_5.out.size; have hz_5 : w4.heap.size + 0 ≤ w5.heap.size := (by have h := hb.size; (try simp at h); omega); clear hB hb f_4 o_4 Ka_4 Kr_4 Kq_4 Kf_4 HB_4 p20 p21 l2; obtain ⟨p30, p31, l3⟩ := Kq_5.out.use2; obtain ⟨p40, p41, l4⟩ := Kr_5.out.use2; obtain ⟨r40, r41⟩ := Kr_5.out.into2))
  go_wp2
  obtain ⟨WF, hWF⟩ : ∃ W, W = ((w5.setCell ⟨w.heap.size + 1, 0, none⟩ (.bool b5)).setCell ⟨w.heap.size + 1, 1, none⟩ (.slice A5 n5 c5)) := ⟨_, rfl⟩
  rw [← hWF]
  have kq : Blk WF (w.heap.size + 1) 24 #[.bool b5, .slice A5 n5 c5] := by rw [hWF]; exact Kr_5.out.own2
  have hBF : Below w.heap.size w WF := by rw [hWF]; exact Below.set2 (HB_5.out) (by first | omega | (simp; omega) | simp)
  have f1 : IsInt WF (.agg #[.bool b5, .slice A5 n5 c5]) (q.floor + 1) := by rw [hWF]; exact s_5.out.otherW Kr_5.out nu nu
  have HE : Hid (IntPost w WF (Ending.returned (.agg #[.bool b5, .slice A5 n5 c5])) (q.floor + 1)) := ⟨_, rfl, f1, hBF⟩
  obtain ⟨e0, e1⟩ := kq.cells2
  clear hWF
  exact bodyPost_ret (v := .agg #[.bool b5, .slice A5 n5 c5]) (by simp [results, Tryz.results35, go_sem, e0, e1] <;> omega) rfl HE.out

def ceilQ (q : Rat) : Int := if q - (q.floor : Rat) = 0 then q.floor else q.floor + 1

theorem q_floor {k : Nat} {w : World} {v : Value} {q : Rat} (h : LimQ k w v q) (hk : k ≤ 100000) (h1 : 1 ≤ k) : Calls Tryz.prog 33 #[v] w fun e w' => IntPost w w' e q.floor := by
  have H := h
  obtain ⟨X, Y, h, rfl⟩ := h
  obtain ⟨b, A, n, c, b', A', n', c', rfl, -, -⟩ := h.form
  exact floor_q0 b A n c b' A' n' c' w k _ H hk h1

theorem q_frac {k : Nat} {w : World} {v : Value} {q : Rat} (h : LimQ k w v q) (hk : k ≤ 100000) (h1 : 1 ≤ k) : Calls Tryz.prog 31 #[v] w fun e w' => RatPost w w' e (q - (q.floor : Rat)) := by
  have H := h
  obtain ⟨X, Y, h, rfl⟩ := h
  obtain ⟨b, A, n, c, b', A', n', c', rfl, -, -⟩ := h.form
  exact frac_q0 b A n c b' A' n' c' w k _ H hk h1

theorem q_ceil {k : Nat} {w : World} {v : Value} {q : Rat} (h : LimQ k w v q) (hk : k ≤ 100000) (h1 : 1 ≤ k) : Calls Tryz.prog 35 #[v] w fun e w' => IntPost w w' e (ceilQ q) := by
  have H := h
  obtain ⟨X, Y, h, rfl⟩ := h
  obtain ⟨b, A, n, c, b', A', n', c', rfl, -, -⟩ := h.form
  unfold ceilQ
  split
  · exact ceil_q0 b A n c b' A' n' c' w k _ H hk h1 ‹_›
  · exact ceil_q1 b A n c b' A' n' c' w k _ H hk h1 ‹_›
end Go.Proofs.YtglcififcldchaaGreatDoor
