/- Contracts of lin: what AddTimes makes of each pair. -/
import Derived.Test.YtebdmidghidaeaaGreatPYc
import Derived.Deep.RegionHeld3
namespace Go.Proofs.YtebdmidghidaeaaGreat
open Go.RowKit
attribute [local go_sem ↓] Go.wp_at_zero Go.wp_at_succ
set_option linter.unusedVariables false

set_option maxRecDepth 100000 in
set_option maxHeartbeats 4000000 in
theorem lat_y (b : Bool) (A : Option Addr) (n c : Nat) (b' : Bool) (A' : Option Addr) (n' c' : Nat) (p : Bool) (P : Option Addr) (m d : Nat) (p' : Bool) (P' : Option Addr) (m' d' : Nat) (w : World) (e : Bool) (E : Option Addr) (s t : Nat) (e' : Bool) (E' : Option Addr) (s' t' : Nat) (gk : Nat) (k l j : Nat) (x y z : Rat) (hx : LimQ k w (.agg #[.bool b, .slice A n c, .bool b', .slice A' n' c']) x) (hy : LimQ l w (.agg #[.bool p, .slice P m d, .bool p', .slice P' m' d']) y) (hz : LimQ j w (.agg #[.bool e, .slice E s t, .bool e', .slice E' s' t']) z) (hg : Blk w gk 27 #[.bool e, .slice E s t, .bool e', .slice E' s' t']) (hk : k ≤ 10000) (hl : l ≤ 10000) (hj : j ≤ 10000) (h1 : 1 ≤ k) (h2 : 1 ≤ l) (h3 : 1 ≤ j) (hq : y = 0) :
    Calls Tryz.prog 38 #[(.agg #[.bool b, .slice A n c, .bool b', .slice A' n' c']), (.agg #[.bool p, .slice P m d, .bool p', .slice P' m' d']), .pointer (some ⟨gk, 0, none⟩)] w fun e w' => RatPost w w' e (x) := by
  have x_0 := Lib.hid hx
  have y_0 := Lib.hid hy
  have z_0 := Lib.hid hz
  have Kk_0 := Lib.hid hg
  have hgk : gk < w.heap.size := hg.lt
  have BYZ := Lib.hid (BQ.mul (hy.bq h2) (hz.bq h3) (Nat.le_refl (l + j)))
  clear hx hy hz hg
  have HD := Lib.hid (decide_eq_true hq)
  clear hq
  go_enter Tryz.func38, Tryz.ntmps38
  obtain ⟨p00, p01, p02, p03, l0⟩ := Kk_0.out.use4
  go_wp2_with fail
  refine Calls.mono (lisz_is HD.out (((y_0.out.alloc_ _).alloc_ _).alloc_ _) (by omega)) ?_
  rintro e w1 ⟨rfl, hb⟩
  have hB := bun (bun (bun (hb)))
  have x_1 := Lib.hid (x_0.out.below hB)
  have y_1 := Lib.hid (y_0.out.below hB)
  have z_1 := Lib.hid (z_0.out.below hB)
  have Kk_1 := Lib.hid (Kk_0.out.below hB)
  have Ka_1 := Lib.hid (show Blk w1 (w.heap.size) 27 #[.bool b, .slice A n c, .bool b', .slice A' n' c'] from (((Blk.new _ _ (by simp) _ _).alloc_ _).alloc_ _).below hb)
  have Kb_1 := Lib.hid (show Blk w1 (w.heap.size + 1) 27 #[.bool p, .slice P m d, .bool p', .slice P' m' d'] from ((Blk.new _ _ (by simp) _ _).alloc_ _).below hb)
  have Kr_1 := Lib.hid (show Blk w1 (w.heap.size + 1 + 1) 27 #[.bool false, .slice none 0 0, .bool false, .slice none 0 0] from (Blk.new _ _ (by simp) _ _).below hb)
  have HB_1 := Lib.hid (hB)
  have hs_1 : w.heap.size ≤ w1.heap.size := HB_1.out.size
  have hz_1 : w.heap.size + 3 ≤ w1.heap.size := (by have h := hb.size; (try simp at h); omega)
  clear hB hb x_0 y_0 z_0 Kk_0 p00 p01 p02 p03 l0
  obtain ⟨p10, p11, p12, p13, l1⟩ := Ka_1.out.use4
  obtain ⟨p20, p21, p22, p23, l2⟩ := Kb_1.out.use4
  obtain ⟨p30, p31, p32, p33, l3⟩ := Kr_1.out.use4
  obtain ⟨p40, p41, p42, p43, l4⟩ := Kk_1.out.use4
  go_wp2_with fail
  refine Calls.mono (lplain x_1.out (by omega) h1) ?_
  rintro e w2 ⟨v, rfl, h, hb⟩
  obtain ⟨b2, A2, n2, c2, d2, B2, m2, k2, rfl, -, -, -, h1, h2⟩ := h.form
  have hB := hb
  have Kk_2 := Lib.hid (Kk_1.out.below hB)
  have Ka_2 := Lib.hid (Ka_1.out.below hB)
  have Kb_2 := Lib.hid (Kb_1.out.below hB)
  have Kr_2 := Lib.hid (Kr_1.out.below hB)
  have q_2 := Lib.hid (h1)
  have q2_2 := Lib.hid (h2)
  have HB_2 := Lib.hid (below_trans HB_1.out hB)
  have hs_2 : w.heap.size ≤ w2.heap.size := HB_2.out.size
  have hz_2 : w1.heap.size + 0 ≤ w2.heap.size := (by have h := hb.size; (try simp at h); omega)
  clear hB hb x_1 y_1 z_1 Kk_1 Ka_1 Kb_1 Kr_1 HB_1 p10 p11 p12 p13 l1 p20 p21 p22 p23 l2 p30 p31 p32 p33 l3 p40 p41 p42 p43 l4
  obtain ⟨p50, p51, p52, p53, l5⟩ := Kr_2.out.use4
  obtain ⟨r50, r51, r52, r53⟩ := Kr_2.out.into4
  go_wp2
  obtain ⟨WF, hWF⟩ : ∃ W, W = ((((w2.setCell ⟨w.heap.size + 1 + 1, 0, none⟩ (.bool b2)).setCell ⟨w.heap.size + 1 + 1, 1, none⟩ (.slice A2 n2 c2)).setCell ⟨w.heap.size + 1 + 1, 2, none⟩ (.bool d2)).setCell ⟨w.heap.size + 1 + 1, 3, none⟩ (.slice B2 m2 k2)) := ⟨_, rfl⟩
  rw [← hWF]
  have kq : Blk WF (w.heap.size + 1 + 1) 27 #[.bool b2, .slice A2 n2 c2, .bool d2, .slice B2 m2 k2] := by rw [hWF]; exact Kr_2.out.own4
  have hBF : Below w.heap.size w WF := by rw [hWF]; exact Below.set4 (HB_2.out) (by first | omega | (simp; omega) | simp)
  have f1 : IsInt WF (.agg #[.bool b2, .slice A2 n2 c2]) (x).num := by rw [hWF]; exact q_2.out.other4 Kr_2.out nu nu nu nu
  have f2 : IsInt WF (.agg #[.bool d2, .slice B2 m2 k2]) ((x).den : Int) := by rw [hWF]; exact q2_2.out.other4 Kr_2.out nu nu nu nu
  have HE : Hid (RatPost w WF (Ending.returned (.agg #[.bool b2, .slice A2 n2 c2, .bool d2, .slice B2 m2 k2])) (x)) := ⟨_, rfl, ⟨_, _, _, _, rfl, f1, f2⟩, hBF⟩
  obtain ⟨e0, e1, e2, e3⟩ := kq.cells4
  clear hWF
  exact bodyPost_ret (v := .agg #[.bool b2, .slice A2 n2 c2, .bool d2, .slice B2 m2 k2]) (by simp [results, Tryz.results38, go_sem, e0, e1, e2, e3] <;> omega) rfl HE.out

set_option maxRecDepth 100000 in
set_option maxHeartbeats 4000000 in
theorem lat_z (b : Bool) (A : Option Addr) (n c : Nat) (b' : Bool) (A' : Option Addr) (n' c' : Nat) (p : Bool) (P : Option Addr) (m d : Nat) (p' : Bool) (P' : Option Addr) (m' d' : Nat) (w : World) (e : Bool) (E : Option Addr) (s t : Nat) (e' : Bool) (E' : Option Addr) (s' t' : Nat) (gk : Nat) (k l j : Nat) (x y z : Rat) (hx : LimQ k w (.agg #[.bool b, .slice A n c, .bool b', .slice A' n' c']) x) (hy : LimQ l w (.agg #[.bool p, .slice P m d, .bool p', .slice P' m' d']) y) (hz : LimQ j w (.agg #[.bool e, .slice E s t, .bool e', .slice E' s' t']) z) (hg : Blk w gk 27 #[.bool e, .slice E s t, .bool e', .slice E' s' t']) (hk : k ≤ 10000) (hl : l ≤ 10000) (hj : j ≤ 10000) (h1 : 1 ≤ k) (h2 : 1 ≤ l) (h3 : 1 ≤ j) (hq : y ≠ 0) (hp : z = 0) :
    Calls Tryz.prog 38 #[(.agg #[.bool b, .slice A n c, .bool b', .slice A' n' c']), (.agg #[.bool p, .slice P m d, .bool p', .slice P' m' d']), .pointer (some ⟨gk, 0, none⟩)] w fun e w' => RatPost w w' e (x) := by
  have x_0 := Lib.hid hx
  have y_0 := Lib.hid hy
  have z_0 := Lib.hid hz
  have Kk_0 := Lib.hid hg
  have hgk : gk < w.heap.size := hg.lt
  have BYZ := Lib.hid (BQ.mul (hy.bq h2) (hz.bq h3) (Nat.le_refl (l + j)))
  clear hx hy hz hg
  have HD := Lib.hid (decide_eq_false hq)
  have HP := Lib.hid (decide_eq_true hp)
  clear hq hp
  go_enter Tryz.func38, Tryz.ntmps38
  obtain ⟨p00, p01, p02, p03, l0⟩ := Kk_0.out.use4
  go_wp2_with fail
  refine Calls.mono (lisz_is HD.out (((y_0.out.alloc_ _).alloc_ _).alloc_ _) (by omega)) ?_
  rintro e w1 ⟨rfl, hb⟩
  have hB := bun (bun (bun (hb)))
  have x_1 := Lib.hid (x_0.out.below hB)
  have y_1 := Lib.hid (y_0.out.below hB)
  have z_1 := Lib.hid (z_0.out.below hB)
  have Kk_1 := Lib.hid (Kk_0.out.below hB)
  have Ka_1 := Lib.hid (show Blk w1 (w.heap.size) 27 #[.bool b, .slice A n c, .bool b', .slice A' n' c'] from (((Blk.new _ _ (by simp) _ _).alloc_ _).alloc_ _).below hb)
  have Kb_1 := Lib.hid (show Blk w1 (w.heap.size + 1) 27 #[.bool p, .slice P m d, .bool p', .slice P' m' d'] from ((Blk.new _ _ (by simp) _ _).alloc_ _).below hb)
  have Kr_1 := Lib.hid (show Blk w1 (w.heap.size + 1 + 1) 27 #[.bool false, .slice none 0 0, .bool false, .slice none 0 0] from (Blk.new _ _ (by simp) _ _).below hb)
  have HB_1 := Lib.hid (hB)
  have hs_1 : w.heap.size ≤ w1.heap.size := HB_1.out.size
  have hz_1 : w.heap.size + 3 ≤ w1.heap.size := (by have h := hb.size; (try simp at h); omega)
  clear hB hb x_0 y_0 z_0 Kk_0 p00 p01 p02 p03 l0
  obtain ⟨p10, p11, p12, p13, l1⟩ := Ka_1.out.use4
  obtain ⟨p20, p21, p22, p23, l2⟩ := Kb_1.out.use4
  obtain ⟨p30, p31, p32, p33, l3⟩ := Kr_1.out.use4
  obtain ⟨p40, p41, p42, p43, l4⟩ := Kk_1.out.use4
  go_wp2_with fail
  refine Calls.mono (lisz_is HP.out z_1.out (by omega)) ?_
  rintro e w2 ⟨rfl, hb⟩
  have hB := hb
  have x_2 := Lib.hid (x_1.out.below hB)
  have y_2 := Lib.hid (y_1.out.below hB)
  have z_2 := Lib.hid (z_1.out.below hB)
  have Kk_2 := Lib.hid (Kk_1.out.below hB)
  have Ka_2 := Lib.hid (Ka_1.out.below hB)
  have Kb_2 := Lib.hid (Kb_1.out.below hB)
  have Kr_2 := Lib.hid (Kr_1.out.below hB)
  have HB_2 := Lib.hid (below_trans HB_1.out hB)
  have hs_2 : w.heap.size ≤ w2.heap.size := HB_2.out.size
  have hz_2 : w1.heap.size + 0 ≤ w2.heap.size := (by have h := hb.size; (try simp at h); omega)
  clear hB hb x_1 y_1 z_1 Kk_1 Ka_1 Kb_1 Kr_1 HB_1 p10 p11 p12 p13 l1 p20 p21 p22 p23 l2 p30 p31 p32 p33 l3 p40 p41 p42 p43 l4
  obtain ⟨p50, p51, p52, p53, l5⟩ := Ka_2.out.use4
  obtain ⟨p60, p61, p62, p63, l6⟩ := Kb_2.out.use4
  obtain ⟨p70, p71, p72, p73, l7⟩ := Kr_2.out.use4
  obtain ⟨p80, p81, p82, p83, l8⟩ := Kk_2.out.use4
  go_wp2_with fail
  refine Calls.mono (lplain x_2.out (by omega) h1) ?_
  rintro e w3 ⟨v, rfl, h, hb⟩
  obtain ⟨b3, A3, n3, c3, d3, B3, m3, k3, rfl, -, -, -, h1, h2⟩ := h.form
  have hB := hb
  have Kk_3 := Lib.hid (Kk_2.out.below hB)
  have Ka_3 := Lib.hid (Ka_2.out.below hB)
  have Kb_3 := Lib.hid (Kb_2.out.below hB)
  have Kr_3 := Lib.hid (Kr_2.out.below hB)
  have q_3 := Lib.hid (h1)
  have q2_3 := Lib.hid (h2)
  have HB_3 := Lib.hid (below_trans HB_2.out hB)
  have hs_3 : w.heap.size ≤ w3.heap.size := HB_3.out.size
  have hz_3 : w2.heap.size + 0 ≤ w3.heap.size := (by have h := hb.size; (try simp at h); omega)
  clear hB hb x_2 y_2 z_2 Kk_2 Ka_2 Kb_2 Kr_2 HB_2 p50 p51 p52 p53 l5 p60 p61 p62 p63 l6 p70 p71 p72 p73 l7 p80 p81 p82 p83 l8
  obtain ⟨p90, p91, p92, p93, l9⟩ := Kr_3.out.use4
  obtain ⟨r90, r91, r92, r93⟩ := Kr_3.out.into4
  go_wp2
  obtain ⟨WF, hWF⟩ : ∃ W, W = ((((w3.setCell ⟨w.heap.size + 1 + 1, 0, none⟩ (.bool b3)).setCell ⟨w.heap.size + 1 + 1, 1, none⟩ (.slice A3 n3 c3)).setCell ⟨w.heap.size + 1 + 1, 2, none⟩ (.bool d3)).setCell ⟨w.heap.size + 1 + 1, 3, none⟩ (.slice B3 m3 k3)) := ⟨_, rfl⟩
  rw [← hWF]
  have kq : Blk WF (w.heap.size + 1 + 1) 27 #[.bool b3, .slice A3 n3 c3, .bool d3, .slice B3 m3 k3] := by rw [hWF]; exact Kr_3.out.own4
  have hBF : Below w.heap.size w WF := by rw [hWF]; exact Below.set4 (HB_3.out) (by first | omega | (simp; omega) | simp)
  have f1 : IsInt WF (.agg #[.bool b3, .slice A3 n3 c3]) (x).num := by rw [hWF]; exact q_3.out.other4 Kr_3.out nu nu nu nu
  have f2 : IsInt WF (.agg #[.bool d3, .slice B3 m3 k3]) ((x).den : Int) := by rw [hWF]; exact q2_3.out.other4 Kr_3.out nu nu nu nu
  have HE : Hid (RatPost w WF (Ending.returned (.agg #[.bool b3, .slice A3 n3 c3, .bool d3, .slice B3 m3 k3])) (x)) := ⟨_, rfl, ⟨_, _, _, _, rfl, f1, f2⟩, hBF⟩
  obtain ⟨e0, e1, e2, e3⟩ := kq.cells4
  clear hWF
  exact bodyPost_ret (v := .agg #[.bool b3, .slice A3 n3 c3, .bool d3, .slice B3 m3 k3]) (by simp [results, Tryz.results38, go_sem, e0, e1, e2, e3] <;> omega) rfl HE.out

set_option maxRecDepth 100000 in
set_option maxHeartbeats 4000000 in
theorem lat_n (b : Bool) (A : Option Addr) (n c : Nat) (b' : Bool) (A' : Option Addr) (n' c' : Nat) (p : Bool) (P : Option Addr) (m d : Nat) (p' : Bool) (P' : Option Addr) (m' d' : Nat) (w : World) (e : Bool) (E : Option Addr) (s t : Nat) (e' : Bool) (E' : Option Addr) (s' t' : Nat) (gk : Nat) (k l j : Nat) (x y z : Rat) (hx : LimQ k w (.agg #[.bool b, .slice A n c, .bool b', .slice A' n' c']) x) (hy : LimQ l w (.agg #[.bool p, .slice P m d, .bool p', .slice P' m' d']) y) (hz : LimQ j w (.agg #[.bool e, .slice E s t, .bool e', .slice E' s' t']) z) (hg : Blk w gk 27 #[.bool e, .slice E s t, .bool e', .slice E' s' t']) (hk : k ≤ 10000) (hl : l ≤ 10000) (hj : j ≤ 10000) (h1 : 1 ≤ k) (h2 : 1 ≤ l) (h3 : 1 ≤ j) (hq : y ≠ 0) (hp : z ≠ 0) :
    Calls Tryz.prog 38 #[(.agg #[.bool b, .slice A n c, .bool b', .slice A' n' c']), (.agg #[.bool p, .slice P m d, .bool p', .slice P' m' d']), .pointer (some ⟨gk, 0, none⟩)] w fun e w' => RatPost w w' e (x + y * z) := by
  have x_0 := Lib.hid hx
  have y_0 := Lib.hid hy
  have z_0 := Lib.hid hz
  have Kk_0 := Lib.hid hg
  have hgk : gk < w.heap.size := hg.lt
  have BYZ := Lib.hid (BQ.mul (hy.bq h2) (hz.bq h3) (Nat.le_refl (l + j)))
  clear hx hy hz hg
  have HD := Lib.hid (decide_eq_false hq)
  have HP := Lib.hid (decide_eq_false hp)
  clear hq hp
  go_enter Tryz.func38, Tryz.ntmps38
  obtain ⟨p00, p01, p02, p03, l0⟩ := Kk_0.out.use4
  go_wp2_with fail
  refine Calls.mono (lisz_is HD.out (((y_0.out.alloc_ _).alloc_ _).alloc_ _) (by omega)) ?_
  rintro e w1 ⟨rfl, hb⟩
  have hB := bun (bun (bun (hb)))
  have x_1 := Lib.hid (x_0.out.below hB)
  have y_1 := Lib.hid (y_0.out.below hB)
  have z_1 := Lib.hid (z_0.out.below hB)
  have Kk_1 := Lib.hid (Kk_0.out.below hB)
  have Ka_1 := Lib.hid (show Blk w1 (w.heap.size) 27 #[.bool b, .slice A n c, .bool b', .slice A' n' c'] from (((Blk.new _ _ (by simp) _ _).alloc_ _).alloc_ _).below hb)
  have Kb_1 := Lib.hid (show Blk w1 (w.heap.size + 1) 27 #[.bool p, .slice P m d, .bool p', .slice P' m' d'] from ((Blk.new _ _ (by simp) _ _).alloc_ _).below hb)
  have Kr_1 := Lib.hid (show Blk w1 (w.heap.size + 1 + 1) 27 #[.bool false, .slice none 0 0, .bool false, .slice none 0 0] from (Blk.new _ _ (by simp) _ _).below hb)
  have HB_1 := Lib.hid (hB)
  have hs_1 : w.heap.size ≤ w1.heap.size := HB_1.out.size
  have hz_1 : w.heap.size + 3 ≤ w1.heap.size := (by have h := hb.size; (try simp at h); omega)
  clear hB hb x_0 y_0 z_0 Kk_0 p00 p01 p02 p03 l0
  obtain ⟨p10, p11, p12, p13, l1⟩ := Ka_1.out.use4
  obtain ⟨p20, p21, p22, p23, l2⟩ := Kb_1.out.use4
  obtain ⟨p30, p31, p32, p33, l3⟩ := Kr_1.out.use4
  obtain ⟨p40, p41, p42, p43, l4⟩ := Kk_1.out.use4
  go_wp2_with fail
  refine Calls.mono (lisz_is HP.out z_1.out (by omega)) ?_
  rintro e w2 ⟨rfl, hb⟩
  have hB := hb
  have x_2 := Lib.hid (x_1.out.below hB)
  have y_2 := Lib.hid (y_1.out.below hB)
  have z_2 := Lib.hid (z_1.out.below hB)
  have Kk_2 := Lib.hid (Kk_1.out.below hB)
  have Ka_2 := Lib.hid (Ka_1.out.below hB)
  have Kb_2 := Lib.hid (Kb_1.out.below hB)
  have Kr_2 := Lib.hid (Kr_1.out.below hB)
  have HB_2 := Lib.hid (below_trans HB_1.out hB)
  have hs_2 : w.heap.size ≤ w2.heap.size := HB_2.out.size
  have hz_2 : w1.heap.size + 0 ≤ w2.heap.size := (by have h := hb.size; (try simp at h); omega)
  clear hB hb x_1 y_1 z_1 Kk_1 Ka_1 Kb_1 Kr_1 HB_1 p10 p11 p12 p13 l1 p20 p21 p22 p23 l2 p30 p31 p32 p33 l3 p40 p41 p42 p43 l4
  obtain ⟨p50, p51, p52, p53, l5⟩ := Ka_2.out.use4
  obtain ⟨p60, p61, p62, p63, l6⟩ := Kb_2.out.use4
  obtain ⟨p70, p71, p72, p73, l7⟩ := Kr_2.out.use4
  obtain ⟨p80, p81, p82, p83, l8⟩ := Kk_2.out.use4
  go_wp2
  obtain ⟨p90, p91, p92, p93, l9⟩ := Ka_2.out.use4
  obtain ⟨p100, p101, p102, p103, l10⟩ := Kb_2.out.use4
  obtain ⟨p110, p111, p112, p113, l11⟩ := Kk_2.out.use4
  have tok0 : True := trivial
  have tok1 : True := trivial
  go_region_held3 (fun w' => w'.cell? ⟨w.heap.size, 0, none⟩ = some (.bool b) ∧ w'.cell? ⟨w.heap.size, 1, none⟩ = some (.slice A n c) ∧ w'.cell? ⟨w.heap.size, 2, none⟩ = some (.bool b') ∧ w'.cell? ⟨w.heap.size, 3, none⟩ = some (.slice A' n' c') ∧ w'.cell? ⟨w.heap.size + 1, 0, none⟩ = some (.bool p) ∧ w'.cell? ⟨w.heap.size + 1, 1, none⟩ = some (.slice P m d) ∧ w'.cell? ⟨w.heap.size + 1, 2, none⟩ = some (.bool p') ∧ w'.cell? ⟨w.heap.size + 1, 3, none⟩ = some (.slice P' m' d') ∧ w'.cell? ⟨gk, 0, none⟩ = some (.bool e) ∧ w'.cell? ⟨gk, 1, none⟩ = some (.slice E s t) ∧ w'.cell? ⟨gk, 2, none⟩ = some (.bool e') ∧ w'.cell? ⟨gk, 3, none⟩ = some (.slice E' s' t')) (first | (refine ⟨?_, ?_, ?_, ?_, ?_, ?_, ?_, ?_, ?_, ?_, ?_, ?_⟩ <;> (first | with_reducible assumption | ((with_reducible refine Eq.trans (cell_drew _ _) ?_); with_reducible assumption) | ((rw [cell_far4 _ _ _ _ _ _ _ _ (by omega)]); with_reducible assumption) | ((repeat rw [cell_far2 _ _ _ _ _ _ (by omega)]); with_reducible assumption) | go_keep)) | trivial | go_keep)
    (first
      | (go_at_call 40; have _t := tok0; clear _t tok0; ((with_reducible refine Calls.mono (q_mul (by first | exact y_2.out | exact y_2.out.drew_ | exact y_2.out.alloc_ _ | exact (y_2.out.alloc_ _).drew_) (by first | exact z_2.out | exact z_2.out.drew_ | exact z_2.out.alloc_ _ | exact (z_2.out.alloc_ _).drew_) (by omega) (by omega) h2 h3) ?_)); rintro e w3 ⟨v, rfl, h, hb⟩; obtain ⟨b3, A3, n3, c3, d3, B3, m3, k3, rfl, -, -, -, -, -⟩ := h.form; have hB := (show Below w2.heap.size w2 w3 from by first | exact hb | exact bundrew hb | exact bun hb | exact bundrew (bun hb) | exact bun (bundrew hb)); have x_3 := Lib.hid (x_2.out.below hB); have Kk_3 := Lib.hid (Kk_2.out.below hB); have Ka_3 := Lib.hid (Ka_2.out.below hB); have Kb_3 := Lib.hid (Kb_2.out.below hB); have Kr_3 := Lib.hid (Kr_2.out.below hB); have m_3 := Lib.hid (h); have HB_3 := Lib.hid (below_trans HB_2.out hB); have hs_3 : w.heap.size ≤ w3.heap.size := HB_3.out.size; have hz_3 : w2.heap.size + 0 ≤ w3.heap.size := (by have h := hb.size; (try simp at h); omega); clear hB hb x_2 y_2 z_2 Kk_2 Ka_2 Kb_2 Kr_2 HB_2 p50 p51 p52 p53 l5 p60 p61 p62 p63 l6 p70 p71 p72 p73 l7 p80 p81 p82 p83 l8 p90 p91 p92 p93 l9 p100 p101 p102 p103 l10 p110 p111 p112 p113 l11; obtain ⟨p120, p121, p122, p123, l12⟩ := Ka_3.out.use4; obtain ⟨p130, p131, p132, p133, l13⟩ := Kb_3.out.use4; obtain ⟨p140, p141, p142, p143, l14⟩ := Kk_3.out.use4)
      | (go_at_call 35; have _t := tok1; clear _t tok1; ((with_reducible refine Calls.mono (q_add (by first | exact x_3.out | exact x_3.out.drew_ | exact x_3.out.alloc_ _ | exact (x_3.out.alloc_ _).drew_) (IsRat.limQ (k := l + j) (by first | exact m_3.out | exact m_3.out.drew_ | exact m_3.out.alloc_ _ | exact (m_3.out.alloc_ _).drew_) BYZ.out) (by omega) (by omega) h1 (by omega)) ?_)); rintro e w4 ⟨v, rfl, h, hb⟩; obtain ⟨b4, A4, n4, c4, d4, B4, m4, k4, rfl, -, -, -, h1, h2⟩ := h.form; have hB := (show Below w3.heap.size w3 w4 from by first | exact hb | exact bundrew hb | exact bun hb | exact bundrew (bun hb) | exact bun (bundrew hb)); have Kk_4 := Lib.hid (Kk_3.out.below hB); have Ka_4 := Lib.hid (Ka_3.out.below hB); have Kb_4 := Lib.hid (Kb_3.out.below hB); have Kr_4 := Lib.hid (Kr_3.out.below hB); have q_4 := Lib.hid (h1); have q2_4 := Lib.hid (h2); have HB_4 := Lib.hid (below_trans HB_3.out hB); have hs_4 : w.heap.size ≤ w4.heap.size := HB_4.out.size; have hz_4 : w3.heap.size + 0 ≤ w4.heap.size := (by have h := hb.size; (try simp at h); omega); clear hB hb x_3 m_3 Kk_3 Ka_3 Kb_3 Kr_3 HB_3 p120 p121 p122 p123 l12 p130 p131 p132 p133 l13 p140 p141 p142 p143 l14; obtain ⟨p150, p151, p152, p153, l15⟩ := Ka_4.out.use4; obtain ⟨p160, p161, p162, p163, l16⟩ := Kb_4.out.use4; obtain ⟨p170, p171, p172, p173, l17⟩ := Kk_4.out.use4; obtain ⟨p180, p181, p182, p183, l18⟩ := Kr_4.out.use4; obtain ⟨r180, r181, r182, r183⟩ := Kr_4.out.into4))
  go_wp2
  obtain ⟨WF, hWF⟩ : ∃ W, W = ((((w4.setCell ⟨w.heap.size + 1 + 1, 0, none⟩ (.bool b4)).setCell ⟨w.heap.size + 1 + 1, 1, none⟩ (.slice A4 n4 c4)).setCell ⟨w.heap.size + 1 + 1, 2, none⟩ (.bool d4)).setCell ⟨w.heap.size + 1 + 1, 3, none⟩ (.slice B4 m4 k4)) := ⟨_, rfl⟩
  rw [← hWF]
  have kq : Blk WF (w.heap.size + 1 + 1) 27 #[.bool b4, .slice A4 n4 c4, .bool d4, .slice B4 m4 k4] := by rw [hWF]; exact Kr_4.out.own4
  have hBF : Below w.heap.size w WF := by rw [hWF]; exact Below.set4 (HB_4.out) (by first | omega | (simp; omega) | simp)
  have f1 : IsInt WF (.agg #[.bool b4, .slice A4 n4 c4]) (x + y * z).num := by rw [hWF]; exact q_4.out.other4 Kr_4.out nu nu nu nu
  have f2 : IsInt WF (.agg #[.bool d4, .slice B4 m4 k4]) ((x + y * z).den : Int) := by rw [hWF]; exact q2_4.out.other4 Kr_4.out nu nu nu nu
  have HE : Hid (RatPost w WF (Ending.returned (.agg #[.bool b4, .slice A4 n4 c4, .bool d4, .slice B4 m4 k4])) (x + y * z)) := ⟨_, rfl, ⟨_, _, _, _, rfl, f1, f2⟩, hBF⟩
  obtain ⟨e0, e1, e2, e3⟩ := kq.cells4
  clear hWF
  exact bodyPost_ret (v := .agg #[.bool b4, .slice A4 n4 c4, .bool d4, .slice B4 m4 k4]) (by simp [results, Tryz.results38, go_sem, e0, e1, e2, e3] <;> omega) rfl HE.out

theorem lat {k l j : Nat} {w : World} {v v' : Value} {x y z : Rat} {gk : Nat} {u : RatD} (hx : LimQ k w v x) (hy : LimQ l w v' y) (hz : LimQ j w u.val z) (hg : Blk w gk 27 (ratL u).toArray) (hk : k ≤ 10000) (hl : l ≤ 10000) (hj : j ≤ 10000) (h1 : 1 ≤ k) (h2 : 1 ≤ l) (h3 : 1 ≤ j) :
    Calls Tryz.prog 38 #[v, v', .pointer (some ⟨gk, 0, none⟩)] w fun e w' => RatPost w w' e (x + y * z) := by
  obtain ⟨⟨b, A, n, c, b', A', n', c'⟩, rfl⟩ := hx.parts
  obtain ⟨⟨p, P, m, d, p', P', m', d'⟩, rfl⟩ := hy.parts
  obtain ⟨e, E, s, t, e', E', s', t'⟩ := u
  by_cases hq : y = 0
  · have := lat_y b A n c b' A' n' c' p P m d p' P' m' d' w e E s t e' E' s' t' gk k l j x y z hx hy hz hg hk hl hj h1 h2 h3 hq
    rw [show x + y * z = x by rw [hq, Rat.zero_mul, Rat.add_zero]]
    exact this
  · by_cases hp : z = 0
    · have := lat_z b A n c b' A' n' c' p P m d p' P' m' d' w e E s t e' E' s' t' gk k l j x y z hx hy hz hg hk hl hj h1 h2 h3 hq hp
      rw [show x + y * z = x by rw [hp, Rat.mul_zero, Rat.add_zero]]
      exact this
    · exact lat_n b A n c b' A' n' c' p P m d p' P' m' d' w e E s t e' E' s' t' gk k l j x y z hx hy hz hg hk hl hj h1 h2 h3 hq hp
end Go.Proofs.YtebdmidghidaeaaGreat
