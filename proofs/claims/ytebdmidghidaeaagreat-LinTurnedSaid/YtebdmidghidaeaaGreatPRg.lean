/- Contracts of ratio: Cmp, told. -/
import Derived.Test.YtebdmidghidaeaaGreatPRf
namespace Go.Proofs.YtebdmidghidaeaaGreat
open Go.RowKit
attribute [local go_sem ↓] Go.wp_at_zero Go.wp_at_succ
set_option linter.unusedVariables false

theorem LimP.form {k : Nat} {w : World} {v : Value} {q : Rat} (h : LimP k w v q) : ∃ b A n c b' A' n' c', v = .agg #[.bool b, .slice A n c, .bool b', .slice A' n' c'] ∧ LimP k w (.agg #[.bool b, .slice A n c, .bool b', .slice A' n' c']) q := by
  obtain ⟨X, Y, h, hY, rfl⟩ := h
  obtain ⟨b, A, n, c, b', A', n', c', rfl, h1, h2⟩ := h.form
  exact ⟨b, A, n, c, b', A', n', c', rfl, X, Y, limR_mk h1 h2, hY, rfl⟩
theorem LimP.parts {k : Nat} {w : World} {b b' : Bool} {m m' : Value} {q : Rat} (h : LimP k w (.agg #[.bool b, m, .bool b', m']) q) : ∃ X Y, LimI k w (.agg #[.bool b, m]) X ∧ LimI k w (.agg #[.bool b', m']) Y ∧ 0 < Y ∧ q = Rat.divInt X Y := by
  obtain ⟨X, Y, ⟨_, _, _, _, e, h1, h2⟩, hY, rfl⟩ := h
  injection e with e
  injection e with e
  simp at e
  obtain ⟨rfl, rfl, rfl, rfl⟩ := e
  exact ⟨X, Y, h1, h2, hY, rfl⟩
/-- Both fractions as calls take them, in their boxes. -/
def TCut (w : World) (ga gb : Nat) (k l : Nat) (x y : Rat) (wx : World) : Prop :=
  ∃ b A n c b' A' n' c' p P m d p' P' m' d', Blk wx ga 27 #[.bool b, .slice A n c, .bool b', .slice A' n' c'] ∧ Blk wx gb 27 #[.bool p, .slice P m d, .bool p', .slice P' m' d'] ∧
    LimP k wx (.agg #[.bool b, .slice A n c, .bool b', .slice A' n' c']) x ∧ LimP l wx (.agg #[.bool p, .slice P m d, .bool p', .slice P' m' d']) y ∧ Below w.heap.size w wx

theorem inWords_no {k l : Nat} {X Y X' Y' : Int} (b : Bool) (A : Option Addr) (n c : Nat) (b' : Bool) (A' : Option Addr) (n' c' : Nat) (p : Bool) (P : Option Addr) (m d : Nat) (p' : Bool) (P' : Option Addr) (m' d' : Nat) (w : World)
    (hx : LimI k w (.agg #[.bool b, .slice A n c]) X) (hy : LimI k w (.agg #[.bool b', .slice A' n' c']) Y) (hx' : LimI l w (.agg #[.bool p, .slice P m d]) X') (hy' : LimI l w (.agg #[.bool p', .slice P' m' d']) Y') (hk : k ≤ 100000) (hl : l ≤ 100000) (h0 : 0 < Y) (h0' : 0 < Y') (h : ¬ (Short X Y ∧ Short X' Y')) :
    Calls Tryz.prog 92 #[.agg #[.bool b, .slice A n c, .bool b', .slice A' n' c'], .agg #[.bool p, .slice P m d, .bool p', .slice P' m' d']] w fun e w' => WNo w w' e := by
  by_cases h2 : Short X Y
  · exact inWords_no2 b A n c b' A' n' c' p P m d p' P' m' d' w k l X Y X' Y' hx hy hx' hy' hk hl h0 h0' h2.1 h2.2.1 h2.2.2 fun h3 => h ⟨h2, h3⟩
  · exact inWords_no1 b A n c b' A' n' c' p P m d p' P' m' d' w k l X Y X' Y' hx hy hx' hy' hk hl h0 h0' h2

set_option maxRecDepth 100000 in
set_option maxHeartbeats 4000000 in
theorem told_add (b : Bool) (A : Option Addr) (n c : Nat) (b' : Bool) (A' : Option Addr) (n' c' : Nat) (p : Bool) (P : Option Addr) (m d : Nat) (p' : Bool) (P' : Option Addr) (m' d' : Nat) (w : World) (k l : Nat) (x y : Rat) (hx : LimQ k w (.agg #[.bool b, .slice A n c, .bool b', .slice A' n' c']) x) (hy : LimQ l w (.agg #[.bool p, .slice P m d, .bool p', .slice P' m' d']) y) (hk : k ≤ 40000) (hl : l ≤ 40000) (h1 : 1 ≤ k) (h1' : 1 ≤ l) :
    Calls Tryz.prog 67 #[(.agg #[.bool b, .slice A n c, .bool b', .slice A' n' c']), (.agg #[.bool p, .slice P m d, .bool p', .slice P' m' d']), (.func (.func 63) #[] #[]), (.func (.func 64) #[] #[])] w fun e w' => RatPost w w' e (x + y) := by
  have x_0 := Lib.hid hx
  have y_0 := Lib.hid hy
  clear hx hy
  go_enter Tryz.func67, Tryz.ntmps67
  go_upto_region 1 with fail
  generalize hW : (((w.alloc (.cells #[.bool b, .slice A n c, .bool b', .slice A' n' c'] 27)).alloc (.cells #[.bool p, .slice P m d, .bool p', .slice P' m' d'] 27)).alloc (.cells #[.bool false, .slice none 0 0, .bool false, .slice none 0 0] 27)) = w1
  have x_1 := Lib.hid (hW ▸ (((x_0.out.alloc_ _).alloc_ _).alloc_ _))
  have y_1 := Lib.hid (hW ▸ (((y_0.out.alloc_ _).alloc_ _).alloc_ _))
  have Ka_1 := Lib.hid (show Blk w1 (w.heap.size) 27 #[.bool b, .slice A n c, .bool b', .slice A' n' c'] from by rw [← hW]; exact ((Blk.new _ _ (by simp) _ _).alloc_ _).alloc_ _)
  have Kb_1 := Lib.hid (show Blk w1 (w.heap.size + 1) 27 #[.bool p, .slice P m d, .bool p', .slice P' m' d'] from by rw [← hW]; exact (Blk.new _ _ (by simp) _ _).alloc_ _)
  have Kr_1 := Lib.hid (show Blk w1 (w.heap.size + 1 + 1) 27 #[.bool false, .slice none 0 0, .bool false, .slice none 0 0] from by rw [← hW]; exact Blk.new _ _ (by simp) _ _)
  have HB_1 := Lib.hid (show Below w.heap.size w w1 from by rw [← hW]; exact halloc (halloc (halloc (Below.refl _ _))))
  have hs_1 : w.heap.size ≤ w1.heap.size := HB_1.out.size
  have hz_1 : w.heap.size + 3 ≤ w1.heap.size := by rw [← hW]; simp
  clear hW x_0 y_0
  go_cut [4] (fun s2 wx => s2 = .pointer (some ⟨w.heap.size, 0, none⟩) ∧ TCut w (w.heap.size) (w.heap.size + 1) k l x y wx ∧ Blk wx (w.heap.size + 1 + 1) 27 #[.bool false, .slice none 0 0, .bool false, .slice none 0 0])
  case first =>
    obtain ⟨p10, p11, p12, p13, l1⟩ := Ka_1.out.use4
    obtain ⟨p20, p21, p22, p23, l2⟩ := Kb_1.out.use4
    obtain ⟨p30, p31, p32, p33, l3⟩ := Ka_1.out.use4
    obtain ⟨p40, p41, p42, p43, l4⟩ := Kb_1.out.use4
    have tok0 : True := trivial
    have tok1 : True := trivial
    go_region_with
      (first
        | (go_at_call 91; have _t := tok0; clear _t tok0; ((with_reducible refine Calls.mono (q_taken (by first | exact x_1.out | exact x_1.out.drew_ | exact x_1.out.alloc_ _ | exact (x_1.out.alloc_ _).drew_) (by omega) h1) ?_)); rintro e w2 ⟨v, rfl, h, hb⟩; obtain ⟨b2, A2, n2, c2, d2, B2, m2, k2, rfl, h⟩ := h.form; have hB := (show Below w1.heap.size w1 w2 from by first | exact hb | exact bundrew hb | exact bun hb | exact bundrew (bun hb) | exact bun (bundrew hb)); have y_2 := Lib.hid (y_1.out.below hB); have Ka_2 := Lib.hid (Ka_1.out.below hB); have Kb_2 := Lib.hid (Kb_1.out.below hB); have Kr_2 := Lib.hid (Kr_1.out.below hB); have f_2 := Lib.hid (h); have HB_2 := Lib.hid (below_trans HB_1.out hB); have hs_2 : w.heap.size ≤ w2.heap.size := HB_2.out.size; have hz_2 : w1.heap.size + 0 ≤ w2.heap.size := (by have h := hb.size; (try simp at h); omega); clear hB hb x_1 y_1 Ka_1 Kb_1 Kr_1 HB_1 p30 p31 p32 p33 l3 p40 p41 p42 p43 l4; obtain ⟨p50, p51, p52, p53, l5⟩ := Ka_2.out.use4; obtain ⟨p60, p61, p62, p63, l6⟩ := Kb_2.out.use4)
        | (go_at_call 91; have _t := tok1; clear _t tok1; ((with_reducible refine Calls.mono (q_taken (by first | exact y_2.out | exact y_2.out.drew_ | exact y_2.out.alloc_ _ | exact (y_2.out.alloc_ _).drew_) (by omega) h1') ?_)); rintro e w3 ⟨v, rfl, h, hb⟩; obtain ⟨b3, A3, n3, c3, d3, B3, m3, k3, rfl, h⟩ := h.form; have hB := (show Below w2.heap.size w2 w3 from by first | exact hb | exact bundrew hb | exact bun hb | exact bundrew (bun hb) | exact bun (bundrew hb)); have f_3 := Lib.hid (f_2.out.below hB); have Ka_3 := Lib.hid (Ka_2.out.below hB); have Kb_3 := Lib.hid (Kb_2.out.below hB); have Kr_3 := Lib.hid (Kr_2.out.below hB); have g_3 := Lib.hid (h); have HB_3 := Lib.hid (below_trans HB_2.out hB); have hs_3 : w.heap.size ≤ w3.heap.size := HB_3.out.size; have hz_3 : w2.heap.size + 0 ≤ w3.heap.size := (by have h := hb.size; (try simp at h); omega); clear hB hb y_2 f_2 Ka_2 Kb_2 Kr_2 HB_2 p50 p51 p52 p53 l5 p60 p61 p62 p63 l6; obtain ⟨p70, p71, p72, p73, l7⟩ := Ka_3.out.use4; obtain ⟨p80, p81, p82, p83, l8⟩ := Kb_3.out.use4; obtain ⟨p90, p91, p92, p93, l9⟩ := Ka_3.out.use4; obtain ⟨r90, r91, r92, r93⟩ := Ka_3.out.into4; obtain ⟨p100, p101, p102, p103, l10⟩ := Kb_3.out.use4; obtain ⟨r100, r101, r102, r103⟩ := Kb_3.out.into4))
    all_goals
      go_wp2_with fail
      go_meet
      exact ⟨rfl, ⟨⟨_, _, _, _, _, _, _, _, _, _, _, _, _, _, _, _, Ka_3.out.own4.other4 (by omega), (Kb_3.out.other4 (by omega)).own4, (f_3.out.other4 Ka_3.out nu nu nu nu).other4 (Kb_3.out.other4 (by omega)) nu nu nu nu, (g_3.out.other4 Ka_3.out nu nu nu nu).other4 (Kb_3.out.other4 (by omega)) nu nu nu nu, Below.set4 (Below.set4 HB_3.out (by omega)) (by omega)⟩, (Kr_3.out.other4 (by omega)).other4 (by omega)⟩⟩
  case rest =>
    obtain ⟨rfl, ⟨b1, A1, n1, c1, d1, B1, m1, k1, b2, A2, n2, c2, d2, B2, m2, k2, q1, q2, q3, q4, q5⟩, q6⟩ := hcut
    have hs_2 : w.heap.size ≤ wc.heap.size := q5.size
    have Ka_2 := Lib.hid q1
    have Kb_2 := Lib.hid q2
    have f_2 := Lib.hid q3
    have g_2 := Lib.hid q4
    have HB_2 := Lib.hid q5
    have Kr_2 := Lib.hid q6
    clear q1 q2 q3 q4 q5 q6
    try clear x_1 y_1 Ka_1 Kb_1 Kr_1 HB_1 hs_1 hz_1
    obtain ⟨X, Y, s1, s2, hY, ex⟩ := f_2.out.parts
    obtain ⟨X', Y', s3, s4, hY', ey⟩ := g_2.out.parts
    have x_2 := Lib.hid s1
    have y_2 := Lib.hid s2
    have u_2 := Lib.hid s3
    have v_2 := Lib.hid s4
    have Bx := Lib.hid s1.lt
    have By := Lib.hid s2.lt
    have Bu := Lib.hid s3.lt
    have Bv := Lib.hid s4.lt
    have EX := Lib.hid ex
    have EY := Lib.hid ey
    clear s1 s2 s3 s4 ex ey f_2 g_2
    have HE2 : Hid (Rat.divInt (X * Y' + X' * Y) (Y * Y') = x + y) := by show _ = _; rw [EX.out, EY.out]; exact (divInt_add hY hY').symm
    have hYY : 0 < Y * Y' := Int.mul_pos hY hY'
    clear EX EY
    by_cases hs : Short X Y ∧ Short X' Y'
    · obtain ⟨⟨s1, s2, s3⟩, s4, s5, s6⟩ := hs
      have m0 := mul31 (a := X) (b := Y') (by omega) (by omega) (by omega) (by omega)
      have m1 := mul31 (a := X') (b := Y) (by omega) (by omega) (by omega) (by omega)
      have m2 := mul31 (a := X) (b := X') (by omega) (by omega) (by omega) (by omega)
      have m3 := mul31 (a := Y) (b := Y') (by omega) (by omega) (by omega) (by omega)
      obtain ⟨p10, p11, p12, p13, l1⟩ := Ka_2.out.use4
      obtain ⟨p20, p21, p22, p23, l2⟩ := Kb_2.out.use4
      go_wp2_with fail
      refine Calls.mono (inWords_yes0 _ _ _ _ _ _ _ _ _ _ _ _ _ _ _ _ _ k l X Y X' Y' x_2.out y_2.out u_2.out v_2.out (by omega) (by omega) hY hY' s1 s2 s3 s4 s5 s6) ?_
      rintro e w3 ⟨rfl, hb⟩
      have hB := hb
      have Kr_3 := Lib.hid (Kr_2.out.below hB)
      have HB_3 := Lib.hid (below_trans HB_2.out hB)
      have hs_3 : w.heap.size ≤ w3.heap.size := HB_3.out.size
      have hz_3 : wc.heap.size + 0 ≤ w3.heap.size := (by have h := hb.size; (try simp at h); omega)
      clear hB hb x_2 y_2 u_2 v_2 Ka_2 Kb_2 Kr_2 HB_2 p10 p11 p12 p13 l1 p20 p21 p22 p23 l2
      go_wp2_with fail
      refine Calls.mono (add_short X Y X' Y' _ s1 s2 hY s3 s4 s5 hY' s6) ?_
      rintro e w4 ⟨rfl, hb⟩
      have hB := bun (bun (hb))
      have Kr_4 := Lib.hid (Kr_3.out.below hB)
      have Kp_4 := Lib.hid (show Blk w4 (w3.heap.size) 77 #[.int .i64 X, .int .i64 Y] from ((Blk.new _ _ (by simp) _ _).alloc_ _).below hb)
      have Kq_4 := Lib.hid (show Blk w4 (w3.heap.size + 1) 77 #[.int .i64 X', .int .i64 Y'] from (Blk.new _ _ (by simp) _ _).below hb)
      have HB_4 := Lib.hid (below_trans HB_3.out hB)
      have hs_4 : w.heap.size ≤ w4.heap.size := HB_4.out.size
      have hz_4 : w3.heap.size + 2 ≤ w4.heap.size := (by have h := hb.size; (try simp at h); omega)
      clear hB hb Kr_3 HB_3
      go_wp2_with fail
      refine Calls.mono (wlow_any (X * Y' + X' * Y) (Y * Y') _ (by omega) (by omega) hYY (by omega)) ?_
      rintro e w5 ⟨v, rfl, h, hb⟩
      rw [HE2.out] at h
      obtain ⟨b5, A5, n5, c5, d5, B5, m5, k5, rfl, -, -, -, h1, h2⟩ := h.form
      have hB := hb
      have Kr_5 := Lib.hid (Kr_4.out.below hB)
      have Kp_5 := Lib.hid (Kp_4.out.below hB)
      have Kq_5 := Lib.hid (Kq_4.out.below hB)
      have z_5 := Lib.hid (h1)
      have z2_5 := Lib.hid (h2)
      have HB_5 := Lib.hid (below_trans HB_4.out hB)
      have hs_5 : w.heap.size ≤ w5.heap.size := HB_5.out.size
      have hz_5 : w4.heap.size + 0 ≤ w5.heap.size := (by have h := hb.size; (try simp at h); omega)
      clear hB hb Kr_4 Kp_4 Kq_4 HB_4
      obtain ⟨p30, p31, p32, p33, l3⟩ := Kr_5.out.use4
      obtain ⟨r30, r31, r32, r33⟩ := Kr_5.out.into4
      go_wp2
      obtain ⟨WF, hWF⟩ : ∃ W, W = ((((w5.setCell ⟨w.heap.size + 1 + 1, 0, none⟩ (.bool b5)).setCell ⟨w.heap.size + 1 + 1, 1, none⟩ (.slice A5 n5 c5)).setCell ⟨w.heap.size + 1 + 1, 2, none⟩ (.bool d5)).setCell ⟨w.heap.size + 1 + 1, 3, none⟩ (.slice B5 m5 k5)) := ⟨_, rfl⟩
      rw [← hWF]
      have kq : Blk WF (w.heap.size + 1 + 1) 27 #[.bool b5, .slice A5 n5 c5, .bool d5, .slice B5 m5 k5] := by rw [hWF]; exact Kr_5.out.own4
      have hBF : Below w.heap.size w WF := by rw [hWF]; exact Below.set4 (HB_5.out) (by first | omega | (simp; omega) | simp)
      have f1 : IsInt WF (.agg #[.bool b5, .slice A5 n5 c5]) (x + y).num := by rw [hWF]; exact z_5.out.other4 Kr_5.out nu nu nu nu
      have f2 : IsInt WF (.agg #[.bool d5, .slice B5 m5 k5]) ((x + y).den : Int) := by rw [hWF]; exact z2_5.out.other4 Kr_5.out nu nu nu nu
      have HE : Hid (RatPost w WF (Ending.returned (.agg #[.bool b5, .slice A5 n5 c5, .bool d5, .slice B5 m5 k5])) (x + y)) := ⟨_, rfl, ⟨_, _, _, _, rfl, f1, f2⟩, hBF⟩
      obtain ⟨e0, e1, e2, e3⟩ := kq.cells4
      clear hWF
      exact bodyPost_ret (v := .agg #[.bool b5, .slice A5 n5 c5, .bool d5, .slice B5 m5 k5]) (by simp [results, Tryz.results67, go_sem, e0, e1, e2, e3] <;> omega) rfl HE.out
    · have HS := Lib.hid hs
      clear hs
      obtain ⟨p10, p11, p12, p13, l1⟩ := Ka_2.out.use4
      obtain ⟨p20, p21, p22, p23, l2⟩ := Kb_2.out.use4
      go_wp2_with fail
      refine Calls.mono (inWords_no _ _ _ _ _ _ _ _ _ _ _ _ _ _ _ _ _ x_2.out y_2.out u_2.out v_2.out (by omega) (by omega) hY hY' HS.out) ?_
      rintro e w3 ⟨x3, y3, x4, y4, rfl, hb⟩
      have hB := hb
      have x_3 := Lib.hid (x_2.out.below hB)
      have y_3 := Lib.hid (y_2.out.below hB)
      have u_3 := Lib.hid (u_2.out.below hB)
      have v_3 := Lib.hid (v_2.out.below hB)
      have Ka_3 := Lib.hid (Ka_2.out.below hB)
      have Kb_3 := Lib.hid (Kb_2.out.below hB)
      have Kr_3 := Lib.hid (Kr_2.out.below hB)
      have HB_3 := Lib.hid (below_trans HB_2.out hB)
      have hs_3 : w.heap.size ≤ w3.heap.size := HB_3.out.size
      have hz_3 : wc.heap.size + 0 ≤ w3.heap.size := (by have h := hb.size; (try simp at h); omega)
      clear hB hb x_2 y_2 u_2 v_2 Ka_2 Kb_2 Kr_2 HB_2 p10 p11 p12 p13 l1 p20 p21 p22 p23 l2
      obtain ⟨p30, p31, p32, p33, l3⟩ := Ka_3.out.use4
      obtain ⟨p40, p41, p42, p43, l4⟩ := Kb_3.out.use4
      go_wp2_with fail
      refine Calls.mono (add_long _ _ _ _ _ _ _ _ _ _ _ _ _ _ _ _ _ k l X Y X' Y' ((x_3.out.alloc_ _).alloc_ _) ((y_3.out.alloc_ _).alloc_ _) ((u_3.out.alloc_ _).alloc_ _) ((v_3.out.alloc_ _).alloc_ _) (by omega) (by omega)) ?_
      rintro e w4 ⟨v, rfl, h, hb⟩
      have hB := bun (bun (hb))
      have Kr_4 := Lib.hid (Kr_3.out.below hB)
      have Kp_4 := Lib.hid (show Blk w4 (w3.heap.size) 77 #[.int .i64 x3, .int .i64 y3] from ((Blk.new _ _ (by simp) _ _).alloc_ _).below hb)
      have Kq_4 := Lib.hid (show Blk w4 (w3.heap.size + 1) 77 #[.int .i64 x4, .int .i64 y4] from (Blk.new _ _ (by simp) _ _).below hb)
      have t_4 := Lib.hid (h)
      have HB_4 := Lib.hid (below_trans HB_3.out hB)
      have hs_4 : w.heap.size ≤ w4.heap.size := HB_4.out.size
      have hz_4 : w3.heap.size + 2 ≤ w4.heap.size := (by have h := hb.size; (try simp at h); omega)
      clear hB hb x_3 y_3 u_3 v_3 Ka_3 Kb_3 Kr_3 HB_3 p30 p31 p32 p33 l3 p40 p41 p42 p43 l4
      go_wp2_with fail
      refine Calls.mono (p_lowest (k := k + l + 1) ⟨_, _, t_4.out, hYY, rfl⟩ (by omega)) ?_
      rintro e w5 ⟨v, rfl, h, hb⟩
      rw [HE2.out] at h
      obtain ⟨b5, A5, n5, c5, d5, B5, m5, k5, rfl, -, -, -, h1, h2⟩ := h.form
      have hB := hb
      have Kr_5 := Lib.hid (Kr_4.out.below hB)
      have Kp_5 := Lib.hid (Kp_4.out.below hB)
      have Kq_5 := Lib.hid (Kq_4.out.below hB)
      have z_5 := Lib.hid (h1)
      have z2_5 := Lib.hid (h2)
      have HB_5 := Lib.hid (below_trans HB_4.out hB)
      have hs_5 : w.heap.size ≤ w5.heap.size := HB_5.out.size
      have hz_5 : w4.heap.size + 0 ≤ w5.heap.size := (by have h := hb.size; (try simp at h); omega)
      clear hB hb t_4 Kr_4 Kp_4 Kq_4 HB_4
      obtain ⟨p50, p51, p52, p53, l5⟩ := Kr_5.out.use4
      obtain ⟨r50, r51, r52, r53⟩ := Kr_5.out.into4
      go_wp2
      obtain ⟨WF, hWF⟩ : ∃ W, W = ((((w5.setCell ⟨w.heap.size + 1 + 1, 0, none⟩ (.bool b5)).setCell ⟨w.heap.size + 1 + 1, 1, none⟩ (.slice A5 n5 c5)).setCell ⟨w.heap.size + 1 + 1, 2, none⟩ (.bool d5)).setCell ⟨w.heap.size + 1 + 1, 3, none⟩ (.slice B5 m5 k5)) := ⟨_, rfl⟩
      rw [← hWF]
      have kq : Blk WF (w.heap.size + 1 + 1) 27 #[.bool b5, .slice A5 n5 c5, .bool d5, .slice B5 m5 k5] := by rw [hWF]; exact Kr_5.out.own4
      have hBF : Below w.heap.size w WF := by rw [hWF]; exact Below.set4 (HB_5.out) (by first | omega | (simp; omega) | simp)
      have f1 : IsInt WF (.agg #[.bool b5, .slice A5 n5 c5]) (x + y).num := by rw [hWF]; exact z_5.out.other4 Kr_5.out nu nu nu nu
      have f2 : IsInt WF (.agg #[.bool d5, .slice B5 m5 k5]) ((x + y).den : Int) := by rw [hWF]; exact z2_5.out.other4 Kr_5.out nu nu nu nu
      have HE : Hid (RatPost w WF (Ending.returned (.agg #[.bool b5, .slice A5 n5 c5, .bool d5, .slice B5 m5 k5])) (x + y)) := ⟨_, rfl, ⟨_, _, _, _, rfl, f1, f2⟩, hBF⟩
      obtain ⟨e0, e1, e2, e3⟩ := kq.cells4
      clear hWF
      exact bodyPost_ret (v := .agg #[.bool b5, .slice A5 n5 c5, .bool d5, .slice B5 m5 k5]) (by simp [results, Tryz.results67, go_sem, e0, e1, e2, e3] <;> omega) rfl HE.out

set_option maxRecDepth 100000 in
set_option maxHeartbeats 4000000 in
theorem told_mul (b : Bool) (A : Option Addr) (n c : Nat) (b' : Bool) (A' : Option Addr) (n' c' : Nat) (p : Bool) (P : Option Addr) (m d : Nat) (p' : Bool) (P' : Option Addr) (m' d' : Nat) (w : World) (k l : Nat) (x y : Rat) (hx : LimQ k w (.agg #[.bool b, .slice A n c, .bool b', .slice A' n' c']) x) (hy : LimQ l w (.agg #[.bool p, .slice P m d, .bool p', .slice P' m' d']) y) (hk : k ≤ 40000) (hl : l ≤ 40000) (h1 : 1 ≤ k) (h1' : 1 ≤ l) :
    Calls Tryz.prog 67 #[(.agg #[.bool b, .slice A n c, .bool b', .slice A' n' c']), (.agg #[.bool p, .slice P m d, .bool p', .slice P' m' d']), (.func (.func 70) #[] #[]), (.func (.func 71) #[] #[])] w fun e w' => RatPost w w' e (x * y) := by
  have x_0 := Lib.hid hx
  have y_0 := Lib.hid hy
  clear hx hy
  go_enter Tryz.func67, Tryz.ntmps67
  go_upto_region 1 with fail
  generalize hW : (((w.alloc (.cells #[.bool b, .slice A n c, .bool b', .slice A' n' c'] 27)).alloc (.cells #[.bool p, .slice P m d, .bool p', .slice P' m' d'] 27)).alloc (.cells #[.bool false, .slice none 0 0, .bool false, .slice none 0 0] 27)) = w1
  have x_1 := Lib.hid (hW ▸ (((x_0.out.alloc_ _).alloc_ _).alloc_ _))
  have y_1 := Lib.hid (hW ▸ (((y_0.out.alloc_ _).alloc_ _).alloc_ _))
  have Ka_1 := Lib.hid (show Blk w1 (w.heap.size) 27 #[.bool b, .slice A n c, .bool b', .slice A' n' c'] from by rw [← hW]; exact ((Blk.new _ _ (by simp) _ _).alloc_ _).alloc_ _)
  have Kb_1 := Lib.hid (show Blk w1 (w.heap.size + 1) 27 #[.bool p, .slice P m d, .bool p', .slice P' m' d'] from by rw [← hW]; exact (Blk.new _ _ (by simp) _ _).alloc_ _)
  have Kr_1 := Lib.hid (show Blk w1 (w.heap.size + 1 + 1) 27 #[.bool false, .slice none 0 0, .bool false, .slice none 0 0] from by rw [← hW]; exact Blk.new _ _ (by simp) _ _)
  have HB_1 := Lib.hid (show Below w.heap.size w w1 from by rw [← hW]; exact halloc (halloc (halloc (Below.refl _ _))))
  have hs_1 : w.heap.size ≤ w1.heap.size := HB_1.out.size
  have hz_1 : w.heap.size + 3 ≤ w1.heap.size := by rw [← hW]; simp
  clear hW x_0 y_0
  go_cut [4] (fun s2 wx => s2 = .pointer (some ⟨w.heap.size, 0, none⟩) ∧ TCut w (w.heap.size) (w.heap.size + 1) k l x y wx ∧ Blk wx (w.heap.size + 1 + 1) 27 #[.bool false, .slice none 0 0, .bool false, .slice none 0 0])
  case first =>
    obtain ⟨p10, p11, p12, p13, l1⟩ := Ka_1.out.use4
    obtain ⟨p20, p21, p22, p23, l2⟩ := Kb_1.out.use4
    obtain ⟨p30, p31, p32, p33, l3⟩ := Ka_1.out.use4
    obtain ⟨p40, p41, p42, p43, l4⟩ := Kb_1.out.use4
    have tok0 : True := trivial
    have tok1 : True := trivial
    go_region_with
      (first
        | (go_at_call 91; have _t := tok0; clear _t tok0; ((with_reducible refine Calls.mono (q_taken (by first | exact x_1.out | exact x_1.out.drew_ | exact x_1.out.alloc_ _ | exact (x_1.out.alloc_ _).drew_) (by omega) h1) ?_)); rintro e w2 ⟨v, rfl, h, hb⟩; obtain ⟨b2, A2, n2, c2, d2, B2, m2, k2, rfl, h⟩ := h.form; have hB := (show Below w1.heap.size w1 w2 from by first | exact hb | exact bundrew hb | exact bun hb | exact bundrew (bun hb) | exact bun (bundrew hb)); have y_2 := Lib.hid (y_1.out.below hB); have Ka_2 := Lib.hid (Ka_1.out.below hB); have Kb_2 := Lib.hid (Kb_1.out.below hB); have Kr_2 := Lib.hid (Kr_1.out.below hB); have f_2 := Lib.hid (h); have HB_2 := Lib.hid (below_trans HB_1.out hB); have hs_2 : w.heap.size ≤ w2.heap.size := HB_2.out.size; have hz_2 : w1.heap.size + 0 ≤ w2.heap.size := (by have h := hb.size; (try simp at h); omega); clear hB hb x_1 y_1 Ka_1 Kb_1 Kr_1 HB_1 p30 p31 p32 p33 l3 p40 p41 p42 p43 l4; obtain ⟨p50, p51, p52, p53, l5⟩ := Ka_2.out.use4; obtain ⟨p60, p61, p62, p63, l6⟩ := Kb_2.out.use4)
        | (go_at_call 91; have _t := tok1; clear _t tok1; ((with_reducible refine Calls.mono (q_taken (by first | exact y_2.out | exact y_2.out.drew_ | exact y_2.out.alloc_ _ | exact (y_2.out.alloc_ _).drew_) (by omega) h1') ?_)); rintro e w3 ⟨v, rfl, h, hb⟩; obtain ⟨b3, A3, n3, c3, d3, B3, m3, k3, rfl, h⟩ := h.form; have hB := (show Below w2.heap.size w2 w3 from by first | exact hb | exact bundrew hb | exact bun hb | exact bundrew (bun hb) | exact bun (bundrew hb)); have f_3 := Lib.hid (f_2.out.below hB); have Ka_3 := Lib.hid (Ka_2.out.below hB); have Kb_3 := Lib.hid (Kb_2.out.below hB); have Kr_3 := Lib.hid (Kr_2.out.below hB); have g_3 := Lib.hid (h); have HB_3 := Lib.hid (below_trans HB_2.out hB); have hs_3 : w.heap.size ≤ w3.heap.size := HB_3.out.size; have hz_3 : w2.heap.size + 0 ≤ w3.heap.size := (by have h := hb.size; (try simp at h); omega); clear hB hb y_2 f_2 Ka_2 Kb_2 Kr_2 HB_2 p50 p51 p52 p53 l5 p60 p61 p62 p63 l6; obtain ⟨p70, p71, p72, p73, l7⟩ := Ka_3.out.use4; obtain ⟨p80, p81, p82, p83, l8⟩ := Kb_3.out.use4; obtain ⟨p90, p91, p92, p93, l9⟩ := Ka_3.out.use4; obtain ⟨r90, r91, r92, r93⟩ := Ka_3.out.into4; obtain ⟨p100, p101, p102, p103, l10⟩ := Kb_3.out.use4; obtain ⟨r100, r101, r102, r103⟩ := Kb_3.out.into4))
    all_goals
      go_wp2_with fail
      go_meet
      exact ⟨rfl, ⟨⟨_, _, _, _, _, _, _, _, _, _, _, _, _, _, _, _, Ka_3.out.own4.other4 (by omega), (Kb_3.out.other4 (by omega)).own4, (f_3.out.other4 Ka_3.out nu nu nu nu).other4 (Kb_3.out.other4 (by omega)) nu nu nu nu, (g_3.out.other4 Ka_3.out nu nu nu nu).other4 (Kb_3.out.other4 (by omega)) nu nu nu nu, Below.set4 (Below.set4 HB_3.out (by omega)) (by omega)⟩, (Kr_3.out.other4 (by omega)).other4 (by omega)⟩⟩
  case rest =>
    obtain ⟨rfl, ⟨b1, A1, n1, c1, d1, B1, m1, k1, b2, A2, n2, c2, d2, B2, m2, k2, q1, q2, q3, q4, q5⟩, q6⟩ := hcut
    have hs_2 : w.heap.size ≤ wc.heap.size := q5.size
    have Ka_2 := Lib.hid q1
    have Kb_2 := Lib.hid q2
    have f_2 := Lib.hid q3
    have g_2 := Lib.hid q4
    have HB_2 := Lib.hid q5
    have Kr_2 := Lib.hid q6
    clear q1 q2 q3 q4 q5 q6
    try clear x_1 y_1 Ka_1 Kb_1 Kr_1 HB_1 hs_1 hz_1
    obtain ⟨X, Y, s1, s2, hY, ex⟩ := f_2.out.parts
    obtain ⟨X', Y', s3, s4, hY', ey⟩ := g_2.out.parts
    have x_2 := Lib.hid s1
    have y_2 := Lib.hid s2
    have u_2 := Lib.hid s3
    have v_2 := Lib.hid s4
    have Bx := Lib.hid s1.lt
    have By := Lib.hid s2.lt
    have Bu := Lib.hid s3.lt
    have Bv := Lib.hid s4.lt
    have EX := Lib.hid ex
    have EY := Lib.hid ey
    clear s1 s2 s3 s4 ex ey f_2 g_2
    have HE2 : Hid (Rat.divInt (X * X') (Y * Y') = x * y) := by show _ = _; rw [EX.out, EY.out]; exact divInt_mul.symm
    have hYY : 0 < Y * Y' := Int.mul_pos hY hY'
    clear EX EY
    by_cases hs : Short X Y ∧ Short X' Y'
    · obtain ⟨⟨s1, s2, s3⟩, s4, s5, s6⟩ := hs
      have m0 := mul31 (a := X) (b := Y') (by omega) (by omega) (by omega) (by omega)
      have m1 := mul31 (a := X') (b := Y) (by omega) (by omega) (by omega) (by omega)
      have m2 := mul31 (a := X) (b := X') (by omega) (by omega) (by omega) (by omega)
      have m3 := mul31 (a := Y) (b := Y') (by omega) (by omega) (by omega) (by omega)
      obtain ⟨p10, p11, p12, p13, l1⟩ := Ka_2.out.use4
      obtain ⟨p20, p21, p22, p23, l2⟩ := Kb_2.out.use4
      go_wp2_with fail
      refine Calls.mono (inWords_yes0 _ _ _ _ _ _ _ _ _ _ _ _ _ _ _ _ _ k l X Y X' Y' x_2.out y_2.out u_2.out v_2.out (by omega) (by omega) hY hY' s1 s2 s3 s4 s5 s6) ?_
      rintro e w3 ⟨rfl, hb⟩
      have hB := hb
      have Kr_3 := Lib.hid (Kr_2.out.below hB)
      have HB_3 := Lib.hid (below_trans HB_2.out hB)
      have hs_3 : w.heap.size ≤ w3.heap.size := HB_3.out.size
      have hz_3 : wc.heap.size + 0 ≤ w3.heap.size := (by have h := hb.size; (try simp at h); omega)
      clear hB hb x_2 y_2 u_2 v_2 Ka_2 Kb_2 Kr_2 HB_2 p10 p11 p12 p13 l1 p20 p21 p22 p23 l2
      go_wp2_with fail
      refine Calls.mono (mul_short X Y X' Y' _ s1 s2 hY s3 s4 s5 hY' s6) ?_
      rintro e w4 ⟨rfl, hb⟩
      have hB := bun (bun (hb))
      have Kr_4 := Lib.hid (Kr_3.out.below hB)
      have Kp_4 := Lib.hid (show Blk w4 (w3.heap.size) 77 #[.int .i64 X, .int .i64 Y] from ((Blk.new _ _ (by simp) _ _).alloc_ _).below hb)
      have Kq_4 := Lib.hid (show Blk w4 (w3.heap.size + 1) 77 #[.int .i64 X', .int .i64 Y'] from (Blk.new _ _ (by simp) _ _).below hb)
      have HB_4 := Lib.hid (below_trans HB_3.out hB)
      have hs_4 : w.heap.size ≤ w4.heap.size := HB_4.out.size
      have hz_4 : w3.heap.size + 2 ≤ w4.heap.size := (by have h := hb.size; (try simp at h); omega)
      clear hB hb Kr_3 HB_3
      go_wp2_with fail
      refine Calls.mono (wlow_any (X * X') (Y * Y') _ (by omega) (by omega) hYY (by omega)) ?_
      rintro e w5 ⟨v, rfl, h, hb⟩
      rw [HE2.out] at h
      obtain ⟨b5, A5, n5, c5, d5, B5, m5, k5, rfl, -, -, -, h1, h2⟩ := h.form
      have hB := hb
      have Kr_5 := Lib.hid (Kr_4.out.below hB)
      have Kp_5 := Lib.hid (Kp_4.out.below hB)
      have Kq_5 := Lib.hid (Kq_4.out.below hB)
      have z_5 := Lib.hid (h1)
      have z2_5 := Lib.hid (h2)
      have HB_5 := Lib.hid (below_trans HB_4.out hB)
      have hs_5 : w.heap.size ≤ w5.heap.size := HB_5.out.size
      have hz_5 : w4.heap.size + 0 ≤ w5.heap.size := (by have h := hb.size; (try simp at h); omega)
      clear hB hb Kr_4 Kp_4 Kq_4 HB_4
      obtain ⟨p30, p31, p32, p33, l3⟩ := Kr_5.out.use4
      obtain ⟨r30, r31, r32, r33⟩ := Kr_5.out.into4
      go_wp2
      obtain ⟨WF, hWF⟩ : ∃ W, W = ((((w5.setCell ⟨w.heap.size + 1 + 1, 0, none⟩ (.bool b5)).setCell ⟨w.heap.size + 1 + 1, 1, none⟩ (.slice A5 n5 c5)).setCell ⟨w.heap.size + 1 + 1, 2, none⟩ (.bool d5)).setCell ⟨w.heap.size + 1 + 1, 3, none⟩ (.slice B5 m5 k5)) := ⟨_, rfl⟩
      rw [← hWF]
      have kq : Blk WF (w.heap.size + 1 + 1) 27 #[.bool b5, .slice A5 n5 c5, .bool d5, .slice B5 m5 k5] := by rw [hWF]; exact Kr_5.out.own4
      have hBF : Below w.heap.size w WF := by rw [hWF]; exact Below.set4 (HB_5.out) (by first | omega | (simp; omega) | simp)
      have f1 : IsInt WF (.agg #[.bool b5, .slice A5 n5 c5]) (x * y).num := by rw [hWF]; exact z_5.out.other4 Kr_5.out nu nu nu nu
      have f2 : IsInt WF (.agg #[.bool d5, .slice B5 m5 k5]) ((x * y).den : Int) := by rw [hWF]; exact z2_5.out.other4 Kr_5.out nu nu nu nu
      have HE : Hid (RatPost w WF (Ending.returned (.agg #[.bool b5, .slice A5 n5 c5, .bool d5, .slice B5 m5 k5])) (x * y)) := ⟨_, rfl, ⟨_, _, _, _, rfl, f1, f2⟩, hBF⟩
      obtain ⟨e0, e1, e2, e3⟩ := kq.cells4
      clear hWF
      exact bodyPost_ret (v := .agg #[.bool b5, .slice A5 n5 c5, .bool d5, .slice B5 m5 k5]) (by simp [results, Tryz.results67, go_sem, e0, e1, e2, e3] <;> omega) rfl HE.out
    · have HS := Lib.hid hs
      clear hs
      obtain ⟨p10, p11, p12, p13, l1⟩ := Ka_2.out.use4
      obtain ⟨p20, p21, p22, p23, l2⟩ := Kb_2.out.use4
      go_wp2_with fail
      refine Calls.mono (inWords_no _ _ _ _ _ _ _ _ _ _ _ _ _ _ _ _ _ x_2.out y_2.out u_2.out v_2.out (by omega) (by omega) hY hY' HS.out) ?_
      rintro e w3 ⟨x3, y3, x4, y4, rfl, hb⟩
      have hB := hb
      have x_3 := Lib.hid (x_2.out.below hB)
      have y_3 := Lib.hid (y_2.out.below hB)
      have u_3 := Lib.hid (u_2.out.below hB)
      have v_3 := Lib.hid (v_2.out.below hB)
      have Ka_3 := Lib.hid (Ka_2.out.below hB)
      have Kb_3 := Lib.hid (Kb_2.out.below hB)
      have Kr_3 := Lib.hid (Kr_2.out.below hB)
      have HB_3 := Lib.hid (below_trans HB_2.out hB)
      have hs_3 : w.heap.size ≤ w3.heap.size := HB_3.out.size
      have hz_3 : wc.heap.size + 0 ≤ w3.heap.size := (by have h := hb.size; (try simp at h); omega)
      clear hB hb x_2 y_2 u_2 v_2 Ka_2 Kb_2 Kr_2 HB_2 p10 p11 p12 p13 l1 p20 p21 p22 p23 l2
      obtain ⟨p30, p31, p32, p33, l3⟩ := Ka_3.out.use4
      obtain ⟨p40, p41, p42, p43, l4⟩ := Kb_3.out.use4
      go_wp2_with fail
      refine Calls.mono (mul_long _ _ _ _ _ _ _ _ _ _ _ _ _ _ _ _ _ k l X Y X' Y' ((x_3.out.alloc_ _).alloc_ _) ((y_3.out.alloc_ _).alloc_ _) ((u_3.out.alloc_ _).alloc_ _) ((v_3.out.alloc_ _).alloc_ _) (by omega) (by omega)) ?_
      rintro e w4 ⟨v, rfl, h, hb⟩
      have hB := bun (bun (hb))
      have Kr_4 := Lib.hid (Kr_3.out.below hB)
      have Kp_4 := Lib.hid (show Blk w4 (w3.heap.size) 77 #[.int .i64 x3, .int .i64 y3] from ((Blk.new _ _ (by simp) _ _).alloc_ _).below hb)
      have Kq_4 := Lib.hid (show Blk w4 (w3.heap.size + 1) 77 #[.int .i64 x4, .int .i64 y4] from (Blk.new _ _ (by simp) _ _).below hb)
      have t_4 := Lib.hid (h)
      have HB_4 := Lib.hid (below_trans HB_3.out hB)
      have hs_4 : w.heap.size ≤ w4.heap.size := HB_4.out.size
      have hz_4 : w3.heap.size + 2 ≤ w4.heap.size := (by have h := hb.size; (try simp at h); omega)
      clear hB hb x_3 y_3 u_3 v_3 Ka_3 Kb_3 Kr_3 HB_3 p30 p31 p32 p33 l3 p40 p41 p42 p43 l4
      go_wp2_with fail
      refine Calls.mono (p_lowest (k := k + l) ⟨_, _, t_4.out, hYY, rfl⟩ (by omega)) ?_
      rintro e w5 ⟨v, rfl, h, hb⟩
      rw [HE2.out] at h
      obtain ⟨b5, A5, n5, c5, d5, B5, m5, k5, rfl, -, -, -, h1, h2⟩ := h.form
      have hB := hb
      have Kr_5 := Lib.hid (Kr_4.out.below hB)
      have Kp_5 := Lib.hid (Kp_4.out.below hB)
      have Kq_5 := Lib.hid (Kq_4.out.below hB)
      have z_5 := Lib.hid (h1)
      have z2_5 := Lib.hid (h2)
      have HB_5 := Lib.hid (below_trans HB_4.out hB)
      have hs_5 : w.heap.size ≤ w5.heap.size := HB_5.out.size
      have hz_5 : w4.heap.size + 0 ≤ w5.heap.size := (by have h := hb.size; (try simp at h); omega)
      clear hB hb t_4 Kr_4 Kp_4 Kq_4 HB_4
      obtain ⟨p50, p51, p52, p53, l5⟩ := Kr_5.out.use4
      obtain ⟨r50, r51, r52, r53⟩ := Kr_5.out.into4
      go_wp2
      obtain ⟨WF, hWF⟩ : ∃ W, W = ((((w5.setCell ⟨w.heap.size + 1 + 1, 0, none⟩ (.bool b5)).setCell ⟨w.heap.size + 1 + 1, 1, none⟩ (.slice A5 n5 c5)).setCell ⟨w.heap.size + 1 + 1, 2, none⟩ (.bool d5)).setCell ⟨w.heap.size + 1 + 1, 3, none⟩ (.slice B5 m5 k5)) := ⟨_, rfl⟩
      rw [← hWF]
      have kq : Blk WF (w.heap.size + 1 + 1) 27 #[.bool b5, .slice A5 n5 c5, .bool d5, .slice B5 m5 k5] := by rw [hWF]; exact Kr_5.out.own4
      have hBF : Below w.heap.size w WF := by rw [hWF]; exact Below.set4 (HB_5.out) (by first | omega | (simp; omega) | simp)
      have f1 : IsInt WF (.agg #[.bool b5, .slice A5 n5 c5]) (x * y).num := by rw [hWF]; exact z_5.out.other4 Kr_5.out nu nu nu nu
      have f2 : IsInt WF (.agg #[.bool d5, .slice B5 m5 k5]) ((x * y).den : Int) := by rw [hWF]; exact z2_5.out.other4 Kr_5.out nu nu nu nu
      have HE : Hid (RatPost w WF (Ending.returned (.agg #[.bool b5, .slice A5 n5 c5, .bool d5, .slice B5 m5 k5])) (x * y)) := ⟨_, rfl, ⟨_, _, _, _, rfl, f1, f2⟩, hBF⟩
      obtain ⟨e0, e1, e2, e3⟩ := kq.cells4
      clear hWF
      exact bodyPost_ret (v := .agg #[.bool b5, .slice A5 n5 c5, .bool d5, .slice B5 m5 k5]) (by simp [results, Tryz.results67, go_sem, e0, e1, e2, e3] <;> omega) rfl HE.out
end Go.Proofs.YtebdmidghidaeaaGreat
