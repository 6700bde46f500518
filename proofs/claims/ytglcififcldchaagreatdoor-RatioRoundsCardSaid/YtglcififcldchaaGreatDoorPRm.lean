/- Contracts of the document's own fractions: Floor, Ceil, Frac. -/
import Derived.Test.YtglcififcldchaaGreatDoorPRwn
import Derived.Test.YtglcififcldchaaGreatDoorPRl
namespace Go.Proofs.YtglcififcldchaaGreatDoor
open Go.RowKit
attribute [local go_sem ↓] Go.wp_at_zero Go.wp_at_succ
set_option linter.unusedVariables false

theorem rfdiv {x : Rat} {q r : Int} (h : FDiv x.num (x.den : Int) q r) : x.floor = q ∧ Rat.divInt r (x.den : Int) = x - (x.floor : Rat) ∧ (r = 0 ↔ x - (x.floor : Rat) = 0) ∧ r.natAbs < x.den := by
  obtain ⟨e1, e2, e3, e4⟩ := h.pos (den_pos' x)
  have hd := den_pos' x
  have hf : x.floor = q := by rw [Rat.floor_def, e1]
  have hr : Rat.divInt r (x.den : Int) = x - (x.floor : Rat) := by
    have := frac_divInt (X := x.num) hd
    rw [Rat.num_divInt_den] at this
    rw [e2]; exact this
  refine ⟨hf, hr, ?_, by omega⟩
  rw [← hr]
  constructor
  · intro h; rw [h, Rat.zero_divInt]
  · intro h
    obtain ⟨p1, p2, p3⟩ := divInt_parts r hd
    rw [h] at p1
    have : (0 : Rat).num = 0 := rfl
    rw [this, Int.zero_mul] at p1
    exact p1.symm

set_option maxRecDepth 100000 in
set_option maxHeartbeats 2000000 in
theorem rfloor_q0 (b : Bool) (A : Option Addr) (n c : Nat) (b' : Bool) (A' : Option Addr) (n' c' : Nat) (w : World) (k : Nat) (x : Rat) (hx : LimQ k w (.agg #[.bool b, .slice A n c, .bool b', .slice A' n' c']) x) (hk : k ≤ 50000) (h1 : 1 ≤ k) :
    Calls Tryz.prog 34 #[(.agg #[.bool b, .slice A n c, .bool b', .slice A' n' c'])] w fun e w' => IntPost w w' e x.floor := by
  have bx := hx.bq h1
  have BXN := Lib.hid bx.1
  have BXD := Lib.hid (show (x.den : Int).natAbs < 4294967296 ^ k from bx.2)
  have x_0 := Lib.hid hx
  have HK := Lib.hid hk
  clear bx hx
  go_enter Tryz.func34, Tryz.ntmps34
  go_wp2_with fail
  refine Calls.mono (r_plain ((x_0.out.alloc_ _).alloc_ _) (by omega)) ?_
  rintro e w1 ⟨v, rfl, h, hb⟩
  obtain ⟨b1, A1, n1, c1, d1, B1, m1, k1, rfl, -, -, -, h1, h2⟩ := h.form
  have hB := bun (bun (hb))
  have Ka_1 := Lib.hid (show Blk w1 (w.heap.size) 26 #[.bool b, .slice A n c, .bool b', .slice A' n' c'] from ((Blk.new _ _ (by simp) _ _).alloc_ _).below hb)
  have Kr_1 := Lib.hid (show Blk w1 (w.heap.size + 1) 24 #[.bool false, .slice none 0 0] from (Blk.new _ _ (by simp) _ _).below hb)
  have xn_1 := Lib.hid (h1)
  have xd_1 := Lib.hid (h2)
  have HB_1 := Lib.hid (hB)
  have hs_1 : w.heap.size ≤ w1.heap.size := HB_1.out.size
  have hz_1 : w.heap.size + 2 ≤ w1.heap.size := (by have h := hb.size; (try simp at h); omega)
  clear hB hb x_0
  go_wp2_with fail
  refine Calls.mono (li_rdiv (IsInt.lim (k := k) (xn_1.out.alloc_ _) BXN.out) (IsInt.lim (k := k) (xd_1.out.alloc_ _) BXD.out) (by omega) (by omega) (by have := den_pos' x; omega)) ?_
  rintro e w2 ⟨vq, vr, q, r, rfl, hf, h, h2, hb⟩
  obtain ⟨b2, A2, n2, c2, rfl, -, -, h⟩ := h.form
  obtain ⟨d2, B2, m2, k2, rfl, -, hr0, h2⟩ := h2.form
  obtain ⟨e1, e2, e3, e4⟩ := rfdiv hf
  clear hf
  subst e1
  have E2 := Lib.hid e2
  have E3 := Lib.hid e3
  have E4 := Lib.hid e4
  have HR0 := Lib.hid hr0
  clear e2 e3 e4 hr0
  have hB := bun (hb)
  have xn_2 := Lib.hid (xn_1.out.below hB)
  have xd_2 := Lib.hid (xd_1.out.below hB)
  have Ka_2 := Lib.hid (Ka_1.out.below hB)
  have Kr_2 := Lib.hid (Kr_1.out.below hB)
  have Kx_2 := Lib.hid (show Blk w2 (w1.heap.size) 26 #[.bool b1, .slice A1 n1 c1, .bool d1, .slice B1 m1 k1] from (Blk.new _ _ (by simp) _ _).below hb)
  have q_2 := Lib.hid (h)
  have r_2 := Lib.hid (h2)
  have HB_2 := Lib.hid (below_trans HB_1.out hB)
  have hs_2 : w.heap.size ≤ w2.heap.size := HB_2.out.size
  have hz_2 : w1.heap.size + 1 ≤ w2.heap.size := (by have h := hb.size; (try simp at h); omega)
  clear hB hb xn_1 xd_1 Ka_1 Kr_1 HB_1
  go_upto_region 3 with fail
  generalize hW : ((w2.alloc (.cells #[.bool b2, .slice A2 n2 c2] 24)).alloc (.cells #[.bool d2, .slice B2 m2 k2] 24)) = w3
  have xn_3 := Lib.hid (hW ▸ ((xn_2.out.alloc_ _).alloc_ _))
  have xd_3 := Lib.hid (hW ▸ ((xd_2.out.alloc_ _).alloc_ _))
  have q_3 := Lib.hid (hW ▸ ((q_2.out.alloc_ _).alloc_ _))
  have r_3 := Lib.hid (hW ▸ ((r_2.out.alloc_ _).alloc_ _))
  have Ka_3 := Lib.hid (show Blk w3 (w.heap.size) 26 #[.bool b, .slice A n c, .bool b', .slice A' n' c'] from by rw [← hW]; exact ((Ka_2.out.alloc_ _).alloc_ _))
  have Kr_3 := Lib.hid (show Blk w3 (w.heap.size + 1) 24 #[.bool false, .slice none 0 0] from by rw [← hW]; exact ((Kr_2.out.alloc_ _).alloc_ _))
  have Kx_3 := Lib.hid (show Blk w3 (w1.heap.size) 26 #[.bool b1, .slice A1 n1 c1, .bool d1, .slice B1 m1 k1] from by rw [← hW]; exact ((Kx_2.out.alloc_ _).alloc_ _))
  have Kq_3 := Lib.hid (show Blk w3 (w2.heap.size) 24 #[.bool b2, .slice A2 n2 c2] from by rw [← hW]; exact (Blk.new _ _ (by simp) _ _).alloc_ _)
  have Ks_3 := Lib.hid (show Blk w3 (w2.heap.size + 1) 24 #[.bool d2, .slice B2 m2 k2] from by rw [← hW]; exact Blk.new _ _ (by simp) _ _)
  have HB_3 := Lib.hid (show Below w.heap.size w w3 from by rw [← hW]; exact halloc (halloc (HB_2.out)))
  have hs_3 : w.heap.size ≤ w3.heap.size := HB_3.out.size
  have hz_3 : w2.heap.size + 2 ≤ w3.heap.size := by rw [← hW]; simp
  clear hW xn_2 xd_2 q_2 r_2 Ka_2 Kr_2 Kx_2 HB_2
  obtain ⟨p10, p11, l1⟩ := Kq_3.out.use2
  obtain ⟨p20, p21, l2⟩ := Kr_3.out.use2
  obtain ⟨r20, r21⟩ := Kr_3.out.into2
  go_wp2
  obtain ⟨WF, hWF⟩ : ∃ W, W = ((w3.setCell ⟨w.heap.size + 1, 0, none⟩ (.bool b2)).setCell ⟨w.heap.size + 1, 1, none⟩ (.slice A2 n2 c2)) := ⟨_, rfl⟩
  rw [← hWF]
  have kq : Blk WF (w.heap.size + 1) 24 #[.bool b2, .slice A2 n2 c2] := by rw [hWF]; exact Kr_3.out.own2
  have hBF : Below w.heap.size w WF := by rw [hWF]; exact Below.set2 (HB_3.out) (by first | omega | (simp; omega) | simp)
  have f1 : IsInt WF (.agg #[.bool b2, .slice A2 n2 c2]) x.floor := by rw [hWF]; exact q_3.out.otherW Kr_3.out nu nu
  have HE : Hid (IntPost w WF (Ending.returned (.agg #[.bool b2, .slice A2 n2 c2])) x.floor) := ⟨_, rfl, f1, hBF⟩
  obtain ⟨e0, e1⟩ := kq.cells2
  clear hWF
  exact bodyPost_ret (v := .agg #[.bool b2, .slice A2 n2 c2]) (by simp [results, Tryz.results34, go_sem, e0, e1] <;> omega) rfl HE.out

theorem rfloor_q {k : Nat} {w : World} {v : Value} {q : Rat} (h : LimQ k w v q) (hk : k ≤ 50000) (h1 : 1 ≤ k) : Calls Tryz.prog 34 #[v] w fun e w' => IntPost w w' e q.floor := by
  have H := h
  obtain ⟨X, Y, h, rfl⟩ := h
  obtain ⟨b, A, n, c, b', A', n', c', rfl, -, -⟩ := h.form
  exact rfloor_q0 b A n c b' A' n' c' w k _ H hk h1

set_option maxRecDepth 100000 in
set_option maxHeartbeats 2000000 in
theorem rfrac_q0 (b : Bool) (A : Option Addr) (n c : Nat) (b' : Bool) (A' : Option Addr) (n' c' : Nat) (w : World) (k : Nat) (x : Rat) (hx : LimQ k w (.agg #[.bool b, .slice A n c, .bool b', .slice A' n' c']) x) (hk : k ≤ 50000) (h1 : 1 ≤ k) :
    Calls Tryz.prog 37 #[(.agg #[.bool b, .slice A n c, .bool b', .slice A' n' c'])] w fun e w' => RatPost w w' e (x - (x.floor : Rat)) := by
  have bx := hx.bq h1
  have BXN := Lib.hid bx.1
  have BXD := Lib.hid (show (x.den : Int).natAbs < 4294967296 ^ k from bx.2)
  have x_0 := Lib.hid hx
  have HK := Lib.hid hk
  clear bx hx
  go_enter Tryz.func37, Tryz.ntmps37
  go_wp2_with fail
  refine Calls.mono (r_plain ((x_0.out.alloc_ _).alloc_ _) (by omega)) ?_
  rintro e w1 ⟨v, rfl, h, hb⟩
  obtain ⟨b1, A1, n1, c1, d1, B1, m1, k1, rfl, -, -, -, h1, h2⟩ := h.form
  have hB := bun (bun (hb))
  have Ka_1 := Lib.hid (show Blk w1 (w.heap.size) 26 #[.bool b, .slice A n c, .bool b', .slice A' n' c'] from ((Blk.new _ _ (by simp) _ _).alloc_ _).below hb)
  have Kr_1 := Lib.hid (show Blk w1 (w.heap.size + 1) 26 #[.bool false, .slice none 0 0, .bool false, .slice none 0 0] from (Blk.new _ _ (by simp) _ _).below hb)
  have xn_1 := Lib.hid (h1)
  have xd_1 := Lib.hid (h2)
  have HB_1 := Lib.hid (hB)
  have hs_1 : w.heap.size ≤ w1.heap.size := HB_1.out.size
  have hz_1 : w.heap.size + 2 ≤ w1.heap.size := (by have h := hb.size; (try simp at h); omega)
  clear hB hb x_0
  go_wp2_with fail
  refine Calls.mono (li_rdiv (IsInt.lim (k := k) (xn_1.out.alloc_ _) BXN.out) (IsInt.lim (k := k) (xd_1.out.alloc_ _) BXD.out) (by omega) (by omega) (by have := den_pos' x; omega)) ?_
  rintro e w2 ⟨vq, vr, q, r, rfl, hf, h, h2, hb⟩
  obtain ⟨b2, A2, n2, c2, rfl, -, -, h⟩ := h.form
  obtain ⟨d2, B2, m2, k2, rfl, -, hr0, h2⟩ := h2.form
  obtain ⟨e1, e2, e3, e4⟩ := rfdiv hf
  clear hf
  subst e1
  have E2 := Lib.hid e2
  have E3 := Lib.hid e3
  have E4 := Lib.hid e4
  have HR0 := Lib.hid hr0
  clear e2 e3 e4 hr0
  have hB := bun (hb)
  have xn_2 := Lib.hid (xn_1.out.below hB)
  have xd_2 := Lib.hid (xd_1.out.below hB)
  have Ka_2 := Lib.hid (Ka_1.out.below hB)
  have Kr_2 := Lib.hid (Kr_1.out.below hB)
  have Kx_2 := Lib.hid (show Blk w2 (w1.heap.size) 26 #[.bool b1, .slice A1 n1 c1, .bool d1, .slice B1 m1 k1] from (Blk.new _ _ (by simp) _ _).below hb)
  have q_2 := Lib.hid (h)
  have r_2 := Lib.hid (h2)
  have HB_2 := Lib.hid (below_trans HB_1.out hB)
  have hs_2 : w.heap.size ≤ w2.heap.size := HB_2.out.size
  have hz_2 : w1.heap.size + 1 ≤ w2.heap.size := (by have h := hb.size; (try simp at h); omega)
  clear hB hb xn_1 xd_1 Ka_1 Kr_1 HB_1
  go_upto_region 3 with fail
  generalize hW : ((w2.alloc (.cells #[.bool b2, .slice A2 n2 c2] 24)).alloc (.cells #[.bool d2, .slice B2 m2 k2] 24)) = w3
  have xn_3 := Lib.hid (hW ▸ ((xn_2.out.alloc_ _).alloc_ _))
  have xd_3 := Lib.hid (hW ▸ ((xd_2.out.alloc_ _).alloc_ _))
  have q_3 := Lib.hid (hW ▸ ((q_2.out.alloc_ _).alloc_ _))
  have r_3 := Lib.hid (hW ▸ ((r_2.out.alloc_ _).alloc_ _))
  have Ka_3 := Lib.hid (show Blk w3 (w.heap.size) 26 #[.bool b, .slice A n c, .bool b', .slice A' n' c'] from by rw [← hW]; exact ((Ka_2.out.alloc_ _).alloc_ _))
  have Kr_3 := Lib.hid (show Blk w3 (w.heap.size + 1) 26 #[.bool false, .slice none 0 0, .bool false, .slice none 0 0] from by rw [← hW]; exact ((Kr_2.out.alloc_ _).alloc_ _))
  have Kx_3 := Lib.hid (show Blk w3 (w1.heap.size) 26 #[.bool b1, .slice A1 n1 c1, .bool d1, .slice B1 m1 k1] from by rw [← hW]; exact ((Kx_2.out.alloc_ _).alloc_ _))
  have Kq_3 := Lib.hid (show Blk w3 (w2.heap.size) 24 #[.bool b2, .slice A2 n2 c2] from by rw [← hW]; exact (Blk.new _ _ (by simp) _ _).alloc_ _)
  have Ks_3 := Lib.hid (show Blk w3 (w2.heap.size + 1) 24 #[.bool d2, .slice B2 m2 k2] from by rw [← hW]; exact Blk.new _ _ (by simp) _ _)
  have HB_3 := Lib.hid (show Below w.heap.size w w3 from by rw [← hW]; exact halloc (halloc (HB_2.out)))
  have hs_3 : w.heap.size ≤ w3.heap.size := HB_3.out.size
  have hz_3 : w2.heap.size + 2 ≤ w3.heap.size := by rw [← hW]; simp
  clear hW xn_2 xd_2 q_2 r_2 Ka_2 Kr_2 Kx_2 HB_2
  obtain ⟨p10, p11, l1⟩ := Ks_3.out.use2
  obtain ⟨p20, p21, p22, p23, l2⟩ := Kx_3.out.use4
  obtain ⟨p30, p31, p32, p33, l3⟩ := Kr_3.out.use4
  obtain ⟨r30, r31, r32, r33⟩ := Kr_3.out.into4
  have BR : Hid (r.natAbs < 4294967296 ^ k) := by
      show _ < _
      have := E4.out
      have h := BXD.out
      rw [Int.natAbs_natCast] at h
      omega
  go_wp2_with fail
  refine Calls.mono (r_plain (k := k) (limQ_mk (IsInt.lim (k := k) r_3.out BR.out) (IsInt.lim (k := k) xd_3.out BXD.out) (den_pos' x) E2.out) (by omega)) ?_
  rintro e w4 ⟨v, rfl, h, hb⟩
  obtain ⟨b4, A4, n4, c4, d4, B4, m4, k4, rfl, -, -, -, h1, h2⟩ := h.form
  have hB := hb
  have xn_4 := Lib.hid (xn_3.out.below hB)
  have xd_4 := Lib.hid (xd_3.out.below hB)
  have q_4 := Lib.hid (q_3.out.below hB)
  have r_4 := Lib.hid (r_3.out.below hB)
  have Ka_4 := Lib.hid (Ka_3.out.below hB)
  have Kr_4 := Lib.hid (Kr_3.out.below hB)
  have Kx_4 := Lib.hid (Kx_3.out.below hB)
  have Kq_4 := Lib.hid (Kq_3.out.below hB)
  have Ks_4 := Lib.hid (Ks_3.out.below hB)
  have z_4 := Lib.hid (h1)
  have z2_4 := Lib.hid (h2)
  have HB_4 := Lib.hid (below_trans HB_3.out hB)
  have hs_4 : w.heap.size ≤ w4.heap.size := HB_4.out.size
  have hz_4 : w3.heap.size + 0 ≤ w4.heap.size := (by have h := hb.size; (try simp at h); omega)
  clear hB hb xn_3 xd_3 q_3 r_3 Ka_3 Kr_3 Kx_3 Kq_3 Ks_3 HB_3 p10 p11 l1 p20 p21 p22 p23 l2 p30 p31 p32 p33 l3 r30 r31 r32 r33
  obtain ⟨p40, p41, p42, p43, l4⟩ := Kr_4.out.use4
  obtain ⟨r40, r41, r42, r43⟩ := Kr_4.out.into4
  go_wp2
  obtain ⟨WF, hWF⟩ : ∃ W, W = ((((w4.setCell ⟨w.heap.size + 1, 0, none⟩ (.bool b4)).setCell ⟨w.heap.size + 1, 1, none⟩ (.slice A4 n4 c4)).setCell ⟨w.heap.size + 1, 2, none⟩ (.bool d4)).setCell ⟨w.heap.size + 1, 3, none⟩ (.slice B4 m4 k4)) := ⟨_, rfl⟩
  rw [← hWF]
  have kq : Blk WF (w.heap.size + 1) 26 #[.bool b4, .slice A4 n4 c4, .bool d4, .slice B4 m4 k4] := by rw [hWF]; exact Kr_4.out.own4
  have hBF : Below w.heap.size w WF := by rw [hWF]; exact Below.set4 (HB_4.out) (by first | omega | (simp; omega) | simp)
  have f1 : IsInt WF (.agg #[.bool b4, .slice A4 n4 c4]) (x - (x.floor : Rat)).num := by rw [hWF]; exact z_4.out.other4 Kr_4.out nu nu nu nu
  have f2 : IsInt WF (.agg #[.bool d4, .slice B4 m4 k4]) ((x - (x.floor : Rat)).den : Int) := by rw [hWF]; exact z2_4.out.other4 Kr_4.out nu nu nu nu
  have HE : Hid (RatPost w WF (Ending.returned (.agg #[.bool b4, .slice A4 n4 c4, .bool d4, .slice B4 m4 k4])) (x - (x.floor : Rat))) := ⟨_, rfl, ⟨_, _, _, _, rfl, f1, f2⟩, hBF⟩
  obtain ⟨e0, e1, e2, e3⟩ := kq.cells4
  clear hWF
  exact bodyPost_ret (v := .agg #[.bool b4, .slice A4 n4 c4, .bool d4, .slice B4 m4 k4]) (by simp [results, Tryz.results37, go_sem, e0, e1, e2, e3] <;> omega) rfl HE.out

theorem rfrac_q {k : Nat} {w : World} {v : Value} {q : Rat} (h : LimQ k w v q) (hk : k ≤ 50000) (h1 : 1 ≤ k) : Calls Tryz.prog 37 #[v] w fun e w' => RatPost w w' e (q - (q.floor : Rat)) := by
  have H := h
  obtain ⟨X, Y, h, rfl⟩ := h
  obtain ⟨b, A, n, c, b', A', n', c', rfl, -, -⟩ := h.form
  exact rfrac_q0 b A n c b' A' n' c' w k _ H hk h1

set_option maxRecDepth 100000 in
set_option maxHeartbeats 4000000 in
theorem rceil_q0 (b : Bool) (A : Option Addr) (n c : Nat) (b' : Bool) (A' : Option Addr) (n' c' : Nat) (w : World) (k : Nat) (x : Rat) (hx : LimQ k w (.agg #[.bool b, .slice A n c, .bool b', .slice A' n' c']) x) (hk : k ≤ 50000) (h1 : 1 ≤ k) (hz : x - (x.floor : Rat) = 0) :
    Calls Tryz.prog 36 #[(.agg #[.bool b, .slice A n c, .bool b', .slice A' n' c'])] w fun e w' => IntPost w w' e (x.floor) := by
  have bx := hx.bq h1
  have BXN := Lib.hid bx.1
  have BXD := Lib.hid (show (x.den : Int).natAbs < 4294967296 ^ k from bx.2)
  have x_0 := Lib.hid hx
  have HK := Lib.hid hk
  clear bx hx
  have HZ0 := Lib.hid hz
  have BF0 : Hid (x.floor.natAbs < 4294967296 ^ (k + 1)) := floor_lt ⟨BXN.out, BXD.out⟩
  clear hz
  go_enter Tryz.func36, Tryz.ntmps36
  go_wp2_with fail
  refine Calls.mono (r_plain ((x_0.out.alloc_ _).alloc_ _) (by omega)) ?_
  rintro e w1 ⟨v, rfl, h, hb⟩
  obtain ⟨b1, A1, n1, c1, d1, B1, m1, k1, rfl, -, -, -, h1, h2⟩ := h.form
  have hB := bun (bun (hb))
  have Ka_1 := Lib.hid (show Blk w1 (w.heap.size) 26 #[.bool b, .slice A n c, .bool b', .slice A' n' c'] from ((Blk.new _ _ (by simp) _ _).alloc_ _).below hb)
  have Kr_1 := Lib.hid (show Blk w1 (w.heap.size + 1) 24 #[.bool false, .slice none 0 0] from (Blk.new _ _ (by simp) _ _).below hb)
  have xn_1 := Lib.hid (h1)
  have xd_1 := Lib.hid (h2)
  have HB_1 := Lib.hid (hB)
  have hs_1 : w.heap.size ≤ w1.heap.size := HB_1.out.size
  have hz_1 : w.heap.size + 2 ≤ w1.heap.size := (by have h := hb.size; (try simp at h); omega)
  clear hB hb x_0
  go_wp2_with fail
  refine Calls.mono (li_rdiv (IsInt.lim (k := k) (xn_1.out.alloc_ _) BXN.out) (IsInt.lim (k := k) (xd_1.out.alloc_ _) BXD.out) (by omega) (by omega) (by have := den_pos' x; omega)) ?_
  rintro e w2 ⟨vq, vr, q, r, rfl, hf, h, h2, hb⟩
  obtain ⟨b2, A2, n2, c2, rfl, -, -, h⟩ := h.form
  obtain ⟨d2, B2, m2, k2, rfl, -, hr0, h2⟩ := h2.form
  obtain ⟨e1, e2, e3, e4⟩ := rfdiv hf
  clear hf
  subst e1
  have E2 := Lib.hid e2
  have E3 := Lib.hid e3
  have E4 := Lib.hid e4
  have HR0 := Lib.hid hr0
  clear e2 e3 e4 hr0
  have hB := bun (hb)
  have xn_2 := Lib.hid (xn_1.out.below hB)
  have xd_2 := Lib.hid (xd_1.out.below hB)
  have Ka_2 := Lib.hid (Ka_1.out.below hB)
  have Kr_2 := Lib.hid (Kr_1.out.below hB)
  have Kx_2 := Lib.hid (show Blk w2 (w1.heap.size) 26 #[.bool b1, .slice A1 n1 c1, .bool d1, .slice B1 m1 k1] from (Blk.new _ _ (by simp) _ _).below hb)
  have q_2 := Lib.hid (h)
  have r_2 := Lib.hid (h2)
  have HB_2 := Lib.hid (below_trans HB_1.out hB)
  have hs_2 : w.heap.size ≤ w2.heap.size := HB_2.out.size
  have hz_2 : w1.heap.size + 1 ≤ w2.heap.size := (by have h := hb.size; (try simp at h); omega)
  clear hB hb xn_1 xd_1 Ka_1 Kr_1 HB_1
  go_upto_region 3 with fail
  generalize hW : ((w2.alloc (.cells #[.bool b2, .slice A2 n2 c2] 24)).alloc (.cells #[.bool d2, .slice B2 m2 k2] 24)) = w3
  have xn_3 := Lib.hid (hW ▸ ((xn_2.out.alloc_ _).alloc_ _))
  have xd_3 := Lib.hid (hW ▸ ((xd_2.out.alloc_ _).alloc_ _))
  have q_3 := Lib.hid (hW ▸ ((q_2.out.alloc_ _).alloc_ _))
  have r_3 := Lib.hid (hW ▸ ((r_2.out.alloc_ _).alloc_ _))
  have Ka_3 := Lib.hid (show Blk w3 (w.heap.size) 26 #[.bool b, .slice A n c, .bool b', .slice A' n' c'] from by rw [← hW]; exact ((Ka_2.out.alloc_ _).alloc_ _))
  have Kr_3 := Lib.hid (show Blk w3 (w.heap.size + 1) 24 #[.bool false, .slice none 0 0] from by rw [← hW]; exact ((Kr_2.out.alloc_ _).alloc_ _))
  have Kx_3 := Lib.hid (show Blk w3 (w1.heap.size) 26 #[.bool b1, .slice A1 n1 c1, .bool d1, .slice B1 m1 k1] from by rw [← hW]; exact ((Kx_2.out.alloc_ _).alloc_ _))
  have Kq_3 := Lib.hid (show Blk w3 (w2.heap.size) 24 #[.bool b2, .slice A2 n2 c2] from by rw [← hW]; exact (Blk.new _ _ (by simp) _ _).alloc_ _)
  have Ks_3 := Lib.hid (show Blk w3 (w2.heap.size + 1) 24 #[.bool d2, .slice B2 m2 k2] from by rw [← hW]; exact Blk.new _ _ (by simp) _ _)
  have HB_3 := Lib.hid (show Below w.heap.size w w3 from by rw [← hW]; exact halloc (halloc (HB_2.out)))
  have hs_3 : w.heap.size ≤ w3.heap.size := HB_3.out.size
  have hz_3 : w2.heap.size + 2 ≤ w3.heap.size := by rw [← hW]; simp
  clear hW xn_2 xd_2 q_2 r_2 Ka_2 Kr_2 Kx_2 HB_2
  obtain ⟨p10, p11, l1⟩ := Kq_3.out.use2
  obtain ⟨p20, p21, l2⟩ := Ks_3.out.use2
  obtain ⟨p30, p31, l3⟩ := Kr_3.out.use2
  obtain ⟨r30, r31⟩ := Kr_3.out.into2
  have hm0 : m2 = 0 := by
      have h1 := E3.out.2 HZ0.out
      have h2 := HR0.out
      omega
  subst hm0
  go_wp2
  obtain ⟨WF, hWF⟩ : ∃ W, W = ((w3.setCell ⟨w.heap.size + 1, 0, none⟩ (.bool b2)).setCell ⟨w.heap.size + 1, 1, none⟩ (.slice A2 n2 c2)) := ⟨_, rfl⟩
  rw [← hWF]
  have kq : Blk WF (w.heap.size + 1) 24 #[.bool b2, .slice A2 n2 c2] := by rw [hWF]; exact Kr_3.out.own2
  have hBF : Below w.heap.size w WF := by rw [hWF]; exact Below.set2 (HB_3.out) (by first | omega | (simp; omega) | simp)
  have f1 : IsInt WF (.agg #[.bool b2, .slice A2 n2 c2]) (x.floor) := by rw [hWF]; exact q_3.out.otherW Kr_3.out nu nu
  have HE : Hid (IntPost w WF (Ending.returned (.agg #[.bool b2, .slice A2 n2 c2])) (x.floor)) := ⟨_, rfl, f1, hBF⟩
  obtain ⟨e0, e1⟩ := kq.cells2
  clear hWF
  exact bodyPost_ret (v := .agg #[.bool b2, .slice A2 n2 c2]) (by simp [results, Tryz.results36, go_sem, e0, e1] <;> omega) rfl HE.out

set_option maxRecDepth 100000 in
set_option maxHeartbeats 4000000 in
theorem rceil_q1 (b : Bool) (A : Option Addr) (n c : Nat) (b' : Bool) (A' : Option Addr) (n' c' : Nat) (w : World) (k : Nat) (x : Rat) (hx : LimQ k w (.agg #[.bool b, .slice A n c, .bool b', .slice A' n' c']) x) (hk : k ≤ 50000) (h1 : 1 ≤ k) (hz : x - (x.floor : Rat) ≠ 0) :
    Calls Tryz.prog 36 #[(.agg #[.bool b, .slice A n c, .bool b', .slice A' n' c'])] w fun e w' => IntPost w w' e (x.floor + 1) := by
  have bx := hx.bq h1
  have BXN := Lib.hid bx.1
  have BXD := Lib.hid (show (x.den : Int).natAbs < 4294967296 ^ k from bx.2)
  have x_0 := Lib.hid hx
  have HK := Lib.hid hk
  clear bx hx
  have HZ0 := Lib.hid hz
  have BF0 : Hid (x.floor.natAbs < 4294967296 ^ (k + 1)) := floor_lt ⟨BXN.out, BXD.out⟩
  clear hz
  go_enter Tryz.func36, Tryz.ntmps36
  go_wp2_with fail
  refine Calls.mono (r_plain ((x_0.out.alloc_ _).alloc_ _) (by omega)) ?_
  rintro e w1 ⟨v, rfl, h, hb⟩
  obtain ⟨b1, A1, n1, c1, d1, B1, m1, k1, rfl, -, -, -, h1, h2⟩ := h.form
  have hB := bun (bun (hb))
  have Ka_1 := Lib.hid (show Blk w1 (w.heap.size) 26 #[.bool b, .slice A n c, .bool b', .slice A' n' c'] from ((Blk.new _ _ (by simp) _ _).alloc_ _).below hb)
  have Kr_1 := Lib.hid (show Blk w1 (w.heap.size + 1) 24 #[.bool false, .slice none 0 0] from (Blk.new _ _ (by simp) _ _).below hb)
  have xn_1 := Lib.hid (h1)
  have xd_1 := Lib.hid (h2)
  have HB_1 := Lib.hid (hB)
  have hs_1 : w.heap.size ≤ w1.heap.size := HB_1.out.size
  have hz_1 : w.heap.size + 2 ≤ w1.heap.size := (by have h := hb.size; (try simp at h); omega)
  clear hB hb x_0
  go_wp2_with fail
  refine Calls.mono (li_rdiv (IsInt.lim (k := k) (xn_1.out.alloc_ _) BXN.out) (IsInt.lim (k := k) (xd_1.out.alloc_ _) BXD.out) (by omega) (by omega) (by have := den_pos' x; omega)) ?_
  rintro e w2 ⟨vq, vr, q, r, rfl, hf, h, h2, hb⟩
  obtain ⟨b2, A2, n2, c2, rfl, -, -, h⟩ := h.form
  obtain ⟨d2, B2, m2, k2, rfl, -, hr0, h2⟩ := h2.form
  obtain ⟨e1, e2, e3, e4⟩ := rfdiv hf
  clear hf
  subst e1
  have E2 := Lib.hid e2
  have E3 := Lib.hid e3
  have E4 := Lib.hid e4
  have HR0 := Lib.hid hr0
  clear e2 e3 e4 hr0
  have hB := bun (hb)
  have xn_2 := Lib.hid (xn_1.out.below hB)
  have xd_2 := Lib.hid (xd_1.out.below hB)
  have Ka_2 := Lib.hid (Ka_1.out.below hB)
  have Kr_2 := Lib.hid (Kr_1.out.below hB)
  have Kx_2 := Lib.hid (show Blk w2 (w1.heap.size) 26 #[.bool b1, .slice A1 n1 c1, .bool d1, .slice B1 m1 k1] from (Blk.new _ _ (by simp) _ _).below hb)
  have q_2 := Lib.hid (h)
  have r_2 := Lib.hid (h2)
  have HB_2 := Lib.hid (below_trans HB_1.out hB)
  have hs_2 : w.heap.size ≤ w2.heap.size := HB_2.out.size
  have hz_2 : w1.heap.size + 1 ≤ w2.heap.size := (by have h := hb.size; (try simp at h); omega)
  clear hB hb xn_1 xd_1 Ka_1 Kr_1 HB_1
  go_upto_region 3 with fail
  generalize hW : ((w2.alloc (.cells #[.bool b2, .slice A2 n2 c2] 24)).alloc (.cells #[.bool d2, .slice B2 m2 k2] 24)) = w3
  have xn_3 := Lib.hid (hW ▸ ((xn_2.out.alloc_ _).alloc_ _))
  have xd_3 := Lib.hid (hW ▸ ((xd_2.out.alloc_ _).alloc_ _))
  have q_3 := Lib.hid (hW ▸ ((q_2.out.alloc_ _).alloc_ _))
  have r_3 := Lib.hid (hW ▸ ((r_2.out.alloc_ _).alloc_ _))
  have Ka_3 := Lib.hid (show Blk w3 (w.heap.size) 26 #[.bool b, .slice A n c, .bool b', .slice A' n' c'] from by rw [← hW]; exact ((Ka_2.out.alloc_ _).alloc_ _))
  have Kr_3 := Lib.hid (show Blk w3 (w.heap.size + 1) 24 #[.bool false, .slice none 0 0] from by rw [← hW]; exact ((Kr_2.out.alloc_ _).alloc_ _))
  have Kx_3 := Lib.hid (show Blk w3 (w1.heap.size) 26 #[.bool b1, .slice A1 n1 c1, .bool d1, .slice B1 m1 k1] from by rw [← hW]; exact ((Kx_2.out.alloc_ _).alloc_ _))
  have Kq_3 := Lib.hid (show Blk w3 (w2.heap.size) 24 #[.bool b2, .slice A2 n2 c2] from by rw [← hW]; exact (Blk.new _ _ (by simp) _ _).alloc_ _)
  have Ks_3 := Lib.hid (show Blk w3 (w2.heap.size + 1) 24 #[.bool d2, .slice B2 m2 k2] from by rw [← hW]; exact Blk.new _ _ (by simp) _ _)
  have HB_3 := Lib.hid (show Below w.heap.size w w3 from by rw [← hW]; exact halloc (halloc (HB_2.out)))
  have hs_3 : w.heap.size ≤ w3.heap.size := HB_3.out.size
  have hz_3 : w2.heap.size + 2 ≤ w3.heap.size := by rw [← hW]; simp
  clear hW xn_2 xd_2 q_2 r_2 Ka_2 Kr_2 Kx_2 HB_2
  obtain ⟨p10, p11, l1⟩ := Kq_3.out.use2
  obtain ⟨p20, p21, l2⟩ := Ks_3.out.use2
  obtain ⟨p30, p31, l3⟩ := Kr_3.out.use2
  obtain ⟨r30, r31⟩ := Kr_3.out.into2
  have hm0 : (0 : Int) < (m2 : Int) := by
      have h1 : r ≠ 0 := fun h => HZ0.out (E3.out.1 h)
      have h2 := HR0.out
      omega
  have hm1 : (m2 : Int) > 0 := hm0
  go_wp2
  obtain ⟨p40, p41, l4⟩ := Kq_3.out.use2
  have tok0 : True := trivial
  have tok1 : True := trivial
  go_region_held3 (fun w' => w'.cell? ⟨w2.heap.size, 0, none⟩ = some (.bool b2) ∧ w'.cell? ⟨w2.heap.size, 1, none⟩ = some (.slice A2 n2 c2)) (first | (refine ⟨?_, ?_⟩ <;> (first | with_reducible assumption | ((with_reducible refine Eq.trans (cell_drew _ _) ?_); with_reducible assumption) | ((rw [cell_far4 _ _ _ _ _ _ _ _ (by omega)]); with_reducible assumption) | ((repeat rw [cell_far2 _ _ _ _ _ _ (by omega)]); with_reducible assumption) | go_keep)) | trivial | go_keep)
    (first
      | (go_at_call 48; have _t := tok0; clear _t tok0; ((with_reducible refine Calls.mono (rof_any 1 _ (by omega) (by omega)) ?_)); rintro e w4 ⟨v, rfl, h, hb⟩; obtain ⟨b4, A4, n4, c4, rfl, -, -, h⟩ := h.form; have hB := (show Below w3.heap.size w3 w4 from by first | exact hb | exact bundrew hb | exact bun hb | exact bundrew (bun hb) | exact bun (bundrew hb)); have xn_4 := Lib.hid (xn_3.out.below hB); have xd_4 := Lib.hid (xd_3.out.below hB); have q_4 := Lib.hid (q_3.out.below hB); have r_4 := Lib.hid (r_3.out.below hB); have Ka_4 := Lib.hid (Ka_3.out.below hB); have Kr_4 := Lib.hid (Kr_3.out.below hB); have Kx_4 := Lib.hid (Kx_3.out.below hB); have Kq_4 := Lib.hid (Kq_3.out.below hB); have Ks_4 := Lib.hid (Ks_3.out.below hB); have o_4 := Lib.hid (h); have HB_4 := Lib.hid (below_trans HB_3.out hB); have hs_4 : w.heap.size ≤ w4.heap.size := HB_4.out.size; have hz_4 : w3.heap.size + 0 ≤ w4.heap.size := (by have h := hb.size; (try simp at h); omega); clear hB hb xn_3 xd_3 q_3 r_3 Ka_3 Kr_3 Kx_3 Kq_3 Ks_3 HB_3 p10 p11 l1 p20 p21 l2 p30 p31 l3 r30 r31 p40 p41 l4; obtain ⟨p50, p51, l5⟩ := Kq_4.out.use2)
      | (go_at_call 67; have _t := tok1; clear _t tok1; ((with_reducible refine Calls.mono (li_radd (IsInt.lim (k := k + 1) (by first | exact q_4.out | exact q_4.out.drew_ | exact q_4.out.alloc_ _ | exact (q_4.out.alloc_ _).drew_) BF0.out) (IsInt.lim (k := 1) (by first | exact o_4.out | exact o_4.out.drew_ | exact o_4.out.alloc_ _ | exact (o_4.out.alloc_ _).drew_) (by decide)) (by have := HK.out; omega) (by omega)) ?_)); rintro e w5 ⟨v, rfl, h, hb⟩; obtain ⟨b5, A5, n5, c5, rfl, -, -, h⟩ := h.form; have hB := (show Below w4.heap.size w4 w5 from by first | exact hb | exact bundrew hb | exact bun hb | exact bundrew (bun hb) | exact bun (bundrew hb)); have xn_5 := Lib.hid (xn_4.out.below hB); have xd_5 := Lib.hid (xd_4.out.below hB); have q_5 := Lib.hid (q_4.out.below hB); have r_5 := Lib.hid (r_4.out.below hB); have o_5 := Lib.hid (o_4.out.below hB); have Ka_5 := Lib.hid (Ka_4.out.below hB); have Kr_5 := Lib.hid (Kr_4.out.below hB); have Kx_5 := Lib.hid (Kx_4.out.below hB); have Kq_5 := Lib.hid (Kq_4.out.below hB); have Ks_5 := Lib.hid (Ks_4.out.below hB); have u_5 := Lib.hid (h); have HB_5 := Lib.hid (below_trans HB_4.out hB); have hs_5 : w.heap.size ≤ w5.heap.size := HB_5.out.size; have hz_5 : w4.heap.size + 0 ≤ w5.heap.size := (by have h := hb.size; (try simp at h); omega); clear hB hb xn_4 xd_4 q_4 r_4 o_4 Ka_4 Kr_4 Kx_4 Kq_4 Ks_4 HB_4 p50 p51 l5; obtain ⟨p60, p61, l6⟩ := Kq_5.out.use2; obtain ⟨p70, p71, l7⟩ := Kr_5.out.use2; obtain ⟨r70, r71⟩ := Kr_5.out.into2))
  go_wp2
  obtain ⟨WF, hWF⟩ : ∃ W, W = ((w5.setCell ⟨w.heap.size + 1, 0, none⟩ (.bool b5)).setCell ⟨w.heap.size + 1, 1, none⟩ (.slice A5 n5 c5)) := ⟨_, rfl⟩
  rw [← hWF]
  have kq : Blk WF (w.heap.size + 1) 24 #[.bool b5, .slice A5 n5 c5] := by rw [hWF]; exact Kr_5.out.own2
  have hBF : Below w.heap.size w WF := by rw [hWF]; exact Below.set2 (HB_5.out) (by first | omega | (simp; omega) | simp)
  have f1 : IsInt WF (.agg #[.bool b5, .slice A5 n5 c5]) (x.floor + 1) := by rw [hWF]; exact u_5.out.otherW Kr_5.out nu nu
  have HE : Hid (IntPost w WF (Ending.returned (.agg #[.bool b5, .slice A5 n5 c5])) (x.floor + 1)) := ⟨_, rfl, f1, hBF⟩
  obtain ⟨e0, e1⟩ := kq.cells2
  clear hWF
  exact bodyPost_ret (v := .agg #[.bool b5, .slice A5 n5 c5]) (by simp [results, Tryz.results36, go_sem, e0, e1] <;> omega) rfl HE.out

theorem rceil_q {k : Nat} {w : World} {v : Value} {q : Rat} (h : LimQ k w v q) (hk : k ≤ 50000) (h1 : 1 ≤ k) : Calls Tryz.prog 36 #[v] w fun e w' => IntPost w w' e (ceilQ q) := by
  have H := h
  obtain ⟨X, Y, h, rfl⟩ := h
  obtain ⟨b, A, n, c, b', A', n', c', rfl, -, -⟩ := h.form
  unfold ceilQ
  split
  · exact rceil_q0 b A n c b' A' n' c' w k _ H hk h1 ‹_›
  · exact rceil_q1 b A n c b' A' n' c' w k _ H hk h1 ‹_›

set_option maxRecDepth 100000 in
set_option maxHeartbeats 1000000 in
theorem rof3_z (N D : Int) (w : World) (h : D = 0) :
    Calls Tryz.prog 30 #[.int .i64 N, .int .i64 D] w fun e w' => RatOfPost w w' e 0 false := by
  have g1 : (D == 0) = true := by rw [h]; rfl
  clear h
  go_enter Tryz.func30, Tryz.ntmps30
  go_wp2_with fail
  refine Calls.mono (rzero_any _) ?_
  rintro e w1 ⟨v, rfl, h, hb⟩
  obtain ⟨b1, A1, n1, c1, d1, B1, m1, k1, rfl, -, -, -, h1, h2⟩ := h.form
  have hB := bun (hb)
  have Kr_1 := Lib.hid (show Blk w1 (w.heap.size) 26 #[.bool false, .slice none 0 0, .bool false, .slice none 0 0] from (Blk.new _ _ (by simp) _ _).below hb)
  have z_1 := Lib.hid (h1)
  have z2_1 := Lib.hid (h2)
  have HB_1 := Lib.hid (hB)
  have hs_1 : w.heap.size ≤ w1.heap.size := HB_1.out.size
  have hz_1 : w.heap.size + 1 ≤ w1.heap.size := (by have h := hb.size; (try simp at h); omega)
  clear hB hb 
  obtain ⟨p10, p11, p12, p13, l1⟩ := Kr_1.out.use4
  obtain ⟨r10, r11, r12, r13⟩ := Kr_1.out.into4
  go_wp2
  obtain ⟨WF, hWF⟩ : ∃ W, W = ((((w1.setCell ⟨w.heap.size, 0, none⟩ (.bool b1)).setCell ⟨w.heap.size, 1, none⟩ (.slice A1 n1 c1)).setCell ⟨w.heap.size, 2, none⟩ (.bool d1)).setCell ⟨w.heap.size, 3, none⟩ (.slice B1 m1 k1)) := ⟨_, rfl⟩
  rw [← hWF]
  have kq : Blk WF (w.heap.size) 26 #[.bool b1, .slice A1 n1 c1, .bool d1, .slice B1 m1 k1] := by rw [hWF]; exact Kr_1.out.own4
  have hBF : Below w.heap.size w WF := by rw [hWF]; exact Below.set4 (HB_1.out) (by first | omega | (simp; omega) | simp)
  have f1 : IsInt WF (.agg #[.bool b1, .slice A1 n1 c1]) (0 : Rat).num := by rw [hWF]; exact z_1.out.other4 Kr_1.out nu nu nu nu
  have f2 : IsInt WF (.agg #[.bool d1, .slice B1 m1 k1]) ((0 : Rat).den : Int) := by rw [hWF]; exact z2_1.out.other4 Kr_1.out nu nu nu nu
  have HE : Hid (RatOfPost w WF (Ending.returned (.tuple #[.agg #[.bool b1, .slice A1 n1 c1, .bool d1, .slice B1 m1 k1], .bool false])) 0 false) := ⟨_, rfl, ⟨_, _, _, _, rfl, f1, f2⟩, hBF⟩
  obtain ⟨e0, e1, e2, e3⟩ := kq.cells4
  clear hWF
  exact bodyPost_ret (v := .tuple #[.agg #[.bool b1, .slice A1 n1 c1, .bool d1, .slice B1 m1 k1], .bool false]) (by simp [results, Tryz.results30, go_sem, e0, e1, e2, e3] <;> omega) rfl HE.out

set_option maxRecDepth 100000 in
set_option maxHeartbeats 2000000 in
theorem rof3_tt (N D : Int) (w : World) (h1 : -9223372036854775808 ≤ N) (h2 : N ≤ 9223372036854775807) (h3 : -9223372036854775808 ≤ D) (h4 : D ≤ 9223372036854775807) (hn : decide (N < 0) = true) (hd : decide (D < 0) = true) (h0 : D ≠ 0) :
    Calls Tryz.prog 30 #[.int .i64 N, .int .i64 D] w fun e w' => RatOfPost w w' e (Rat.divInt N D) true := by
  have g1 : (D == 0) = false := by rw [beq_eq_false_iff_ne]; exact h0
  have HN := Lib.hid hn
  have HD := Lib.hid hd
  have hN : N < 0 := of_decide_eq_true hn
  have hD : D < 0 := of_decide_eq_true hd
  have e1 : sg false N.natAbs = -N := by unfold sg; simp; omega
  have e2 : sg false D.natAbs = -D := by unfold sg; simp; omega
  have HY : Hid (0 < sg false D.natAbs) := by show _ < _; rw [e2]; omega
  have EQ : Hid (Rat.divInt (sg false N.natAbs) (sg false D.natAbs) = Rat.divInt N D) := by show _ = _; rw [e1, e2, Rat.neg_divInt_neg]
  have H1 := Lib.hid h1
  have H2 := Lib.hid h2
  have H3 := Lib.hid h3
  have H4 := Lib.hid h4
  clear hn hd hN hD e1 e2 h0 h1 h2 h3 h4
  go_enter Tryz.func30, Tryz.ntmps30
  go_wp2_with fail
  refine Calls.mono (rof_any N _ H1.out H2.out) ?_
  rintro e w1 ⟨v, rfl, h, hb⟩
  obtain ⟨b1, A1, n1, c1, rfl, e1, -, h⟩ := h.form
  obtain rfl : b1 = true := e1.trans HN.out
  clear e1
  replace h := (h.limk H1.out H2.out).mag
  have hB := bun (hb)
  have Kr_1 := Lib.hid (show Blk w1 (w.heap.size) 26 #[.bool false, .slice none 0 0, .bool false, .slice none 0 0] from (Blk.new _ _ (by simp) _ _).below hb)
  have n_1 := Lib.hid (h)
  have HB_1 := Lib.hid (hB)
  have hs_1 : w.heap.size ≤ w1.heap.size := HB_1.out.size
  have hz_1 : w.heap.size + 1 ≤ w1.heap.size := (by have h := hb.size; (try simp at h); omega)
  clear hB hb 
  go_wp2_with fail
  refine Calls.mono (rof_any D _ H3.out H4.out) ?_
  rintro e w2 ⟨v, rfl, h, hb⟩
  obtain ⟨b2, A2, n2, c2, rfl, e2, -, h⟩ := h.form
  obtain rfl : b2 = true := e2.trans HD.out
  clear e2
  replace h := (h.limk H3.out H4.out).mag
  have hB := bun (hb)
  have n_2 := Lib.hid (n_1.out.below hB)
  have Kr_2 := Lib.hid (Kr_1.out.below hB)
  have Kn_2 := Lib.hid (show Blk w2 (w1.heap.size) 24 #[.bool true, .slice A1 n1 c1] from (Blk.new _ _ (by simp) _ _).below hb)
  have d_2 := Lib.hid (h)
  have HB_2 := Lib.hid (below_trans HB_1.out hB)
  have hs_2 : w.heap.size ≤ w2.heap.size := HB_2.out.size
  have hz_2 : w1.heap.size + 1 ≤ w2.heap.size := (by have h := hb.size; (try simp at h); omega)
  clear hB hb n_1 Kr_1 HB_1
  obtain ⟨p10, p11, l1⟩ := Kn_2.out.use2
  go_wp2_with fail
  refine Calls.mono (r_plain (k := 2) (limQ_mk (limI_mk (b := false) (n_2.out.alloc_ _)) (limI_mk (b := false) (d_2.out.alloc_ _)) HY.out EQ.out) (by omega)) ?_
  rintro e w3 ⟨v, rfl, h, hb⟩
  obtain ⟨b3, A3, n3, c3, d3, B3, m3, k3, rfl, -, -, -, h1, h2⟩ := h.form
  have hB := bun (hb)
  have n_3 := Lib.hid (n_2.out.below hB)
  have d_3 := Lib.hid (d_2.out.below hB)
  have Kr_3 := Lib.hid (Kr_2.out.below hB)
  have Kn_3 := Lib.hid (Kn_2.out.below hB)
  have Kd_3 := Lib.hid (show Blk w3 (w2.heap.size) 24 #[.bool true, .slice A2 n2 c2] from (Blk.new _ _ (by simp) _ _).below hb)
  have z_3 := Lib.hid (h1)
  have z2_3 := Lib.hid (h2)
  have HB_3 := Lib.hid (below_trans HB_2.out hB)
  have hs_3 : w.heap.size ≤ w3.heap.size := HB_3.out.size
  have hz_3 : w2.heap.size + 1 ≤ w3.heap.size := (by have h := hb.size; (try simp at h); omega)
  clear hB hb n_2 d_2 Kr_2 Kn_2 HB_2 p10 p11 l1
  obtain ⟨p20, p21, p22, p23, l2⟩ := Kr_3.out.use4
  obtain ⟨r20, r21, r22, r23⟩ := Kr_3.out.into4
  go_wp2
  obtain ⟨WF, hWF⟩ : ∃ W, W = ((((w3.setCell ⟨w.heap.size, 0, none⟩ (.bool b3)).setCell ⟨w.heap.size, 1, none⟩ (.slice A3 n3 c3)).setCell ⟨w.heap.size, 2, none⟩ (.bool d3)).setCell ⟨w.heap.size, 3, none⟩ (.slice B3 m3 k3)) := ⟨_, rfl⟩
  rw [← hWF]
  have kq : Blk WF (w.heap.size) 26 #[.bool b3, .slice A3 n3 c3, .bool d3, .slice B3 m3 k3] := by rw [hWF]; exact Kr_3.out.own4
  have hBF : Below w.heap.size w WF := by rw [hWF]; exact Below.set4 (HB_3.out) (by first | omega | (simp; omega) | simp)
  have f1 : IsInt WF (.agg #[.bool b3, .slice A3 n3 c3]) (Rat.divInt N D).num := by rw [hWF]; exact z_3.out.other4 Kr_3.out nu nu nu nu
  have f2 : IsInt WF (.agg #[.bool d3, .slice B3 m3 k3]) ((Rat.divInt N D).den : Int) := by rw [hWF]; exact z2_3.out.other4 Kr_3.out nu nu nu nu
  have HE : Hid (RatOfPost w WF (Ending.returned (.tuple #[.agg #[.bool b3, .slice A3 n3 c3, .bool d3, .slice B3 m3 k3], .bool true])) (Rat.divInt N D) true) := ⟨_, rfl, ⟨_, _, _, _, rfl, f1, f2⟩, hBF⟩
  obtain ⟨e0, e1, e2, e3⟩ := kq.cells4
  clear hWF
  exact bodyPost_ret (v := .tuple #[.agg #[.bool b3, .slice A3 n3 c3, .bool d3, .slice B3 m3 k3], .bool true]) (by simp [results, Tryz.results30, go_sem, e0, e1, e2, e3] <;> omega) rfl HE.out

set_option maxRecDepth 100000 in
set_option maxHeartbeats 2000000 in
theorem rof3_tf (N D : Int) (w : World) (h1 : -9223372036854775808 ≤ N) (h2 : N ≤ 9223372036854775807) (h3 : -9223372036854775808 ≤ D) (h4 : D ≤ 9223372036854775807) (hn : decide (N < 0) = true) (hd : decide (D < 0) = false) (h0 : D ≠ 0) :
    Calls Tryz.prog 30 #[.int .i64 N, .int .i64 D] w fun e w' => RatOfPost w w' e (Rat.divInt N D) true := by
  have g1 : (D == 0) = false := by rw [beq_eq_false_iff_ne]; exact h0
  have HN := Lib.hid hn
  have HD := Lib.hid hd
  have hN : N < 0 := of_decide_eq_true hn
  have hD : ¬ D < 0 := of_decide_eq_false hd
  have e1 : sg true N.natAbs = N := by unfold sg; simp; omega
  have e2 : sg false D.natAbs = D := by unfold sg; simp; omega
  have HY : Hid (0 < sg false D.natAbs) := by show _ < _; rw [e2]; omega
  have EQ : Hid (Rat.divInt (sg true N.natAbs) (sg false D.natAbs) = Rat.divInt N D) := by show _ = _; rw [e1, e2]
  have H1 := Lib.hid h1
  have H2 := Lib.hid h2
  have H3 := Lib.hid h3
  have H4 := Lib.hid h4
  clear hn hd hN hD e1 e2 h0 h1 h2 h3 h4
  go_enter Tryz.func30, Tryz.ntmps30
  go_wp2_with fail
  refine Calls.mono (rof_any N _ H1.out H2.out) ?_
  rintro e w1 ⟨v, rfl, h, hb⟩
  obtain ⟨b1, A1, n1, c1, rfl, e1, -, h⟩ := h.form
  obtain rfl : b1 = true := e1.trans HN.out
  clear e1
  replace h := (h.limk H1.out H2.out).mag
  have hB := bun (hb)
  have Kr_1 := Lib.hid (show Blk w1 (w.heap.size) 26 #[.bool false, .slice none 0 0, .bool false, .slice none 0 0] from (Blk.new _ _ (by simp) _ _).below hb)
  have n_1 := Lib.hid (h)
  have HB_1 := Lib.hid (hB)
  have hs_1 : w.heap.size ≤ w1.heap.size := HB_1.out.size
  have hz_1 : w.heap.size + 1 ≤ w1.heap.size := (by have h := hb.size; (try simp at h); omega)
  clear hB hb 
  go_wp2_with fail
  refine Calls.mono (rof_any D _ H3.out H4.out) ?_
  rintro e w2 ⟨v, rfl, h, hb⟩
  obtain ⟨b2, A2, n2, c2, rfl, e2, -, h⟩ := h.form
  obtain rfl : b2 = false := e2.trans HD.out
  clear e2
  replace h := (h.limk H3.out H4.out).mag
  have hB := bun (hb)
  have n_2 := Lib.hid (n_1.out.below hB)
  have Kr_2 := Lib.hid (Kr_1.out.below hB)
  have Kn_2 := Lib.hid (show Blk w2 (w1.heap.size) 24 #[.bool true, .slice A1 n1 c1] from (Blk.new _ _ (by simp) _ _).below hb)
  have d_2 := Lib.hid (h)
  have HB_2 := Lib.hid (below_trans HB_1.out hB)
  have hs_2 : w.heap.size ≤ w2.heap.size := HB_2.out.size
  have hz_2 : w1.heap.size + 1 ≤ w2.heap.size := (by have h := hb.size; (try simp at h); omega)
  clear hB hb n_1 Kr_1 HB_1
  obtain ⟨p10, p11, l1⟩ := Kn_2.out.use2
  go_wp2_with fail
  refine Calls.mono (r_plain (k := 2) (limQ_mk (limI_mk (b := true) (n_2.out.alloc_ _)) (limI_mk (b := false) (d_2.out.alloc_ _)) HY.out EQ.out) (by omega)) ?_
  rintro e w3 ⟨v, rfl, h, hb⟩
  obtain ⟨b3, A3, n3, c3, d3, B3, m3, k3, rfl, -, -, -, h1, h2⟩ := h.form
  have hB := bun (hb)
  have n_3 := Lib.hid (n_2.out.below hB)
  have d_3 := Lib.hid (d_2.out.below hB)
  have Kr_3 := Lib.hid (Kr_2.out.below hB)
  have Kn_3 := Lib.hid (Kn_2.out.below hB)
  have Kd_3 := Lib.hid (show Blk w3 (w2.heap.size) 24 #[.bool false, .slice A2 n2 c2] from (Blk.new _ _ (by simp) _ _).below hb)
  have z_3 := Lib.hid (h1)
  have z2_3 := Lib.hid (h2)
  have HB_3 := Lib.hid (below_trans HB_2.out hB)
  have hs_3 : w.heap.size ≤ w3.heap.size := HB_3.out.size
  have hz_3 : w2.heap.size + 1 ≤ w3.heap.size := (by have h := hb.size; (try simp at h); omega)
  clear hB hb n_2 d_2 Kr_2 Kn_2 HB_2 p10 p11 l1
  obtain ⟨p20, p21, p22, p23, l2⟩ := Kr_3.out.use4
  obtain ⟨r20, r21, r22, r23⟩ := Kr_3.out.into4
  go_wp2
  obtain ⟨WF, hWF⟩ : ∃ W, W = ((((w3.setCell ⟨w.heap.size, 0, none⟩ (.bool b3)).setCell ⟨w.heap.size, 1, none⟩ (.slice A3 n3 c3)).setCell ⟨w.heap.size, 2, none⟩ (.bool d3)).setCell ⟨w.heap.size, 3, none⟩ (.slice B3 m3 k3)) := ⟨_, rfl⟩
  rw [← hWF]
  have kq : Blk WF (w.heap.size) 26 #[.bool b3, .slice A3 n3 c3, .bool d3, .slice B3 m3 k3] := by rw [hWF]; exact Kr_3.out.own4
  have hBF : Below w.heap.size w WF := by rw [hWF]; exact Below.set4 (HB_3.out) (by first | omega | (simp; omega) | simp)
  have f1 : IsInt WF (.agg #[.bool b3, .slice A3 n3 c3]) (Rat.divInt N D).num := by rw [hWF]; exact z_3.out.other4 Kr_3.out nu nu nu nu
  have f2 : IsInt WF (.agg #[.bool d3, .slice B3 m3 k3]) ((Rat.divInt N D).den : Int) := by rw [hWF]; exact z2_3.out.other4 Kr_3.out nu nu nu nu
  have HE : Hid (RatOfPost w WF (Ending.returned (.tuple #[.agg #[.bool b3, .slice A3 n3 c3, .bool d3, .slice B3 m3 k3], .bool true])) (Rat.divInt N D) true) := ⟨_, rfl, ⟨_, _, _, _, rfl, f1, f2⟩, hBF⟩
  obtain ⟨e0, e1, e2, e3⟩ := kq.cells4
  clear hWF
  exact bodyPost_ret (v := .tuple #[.agg #[.bool b3, .slice A3 n3 c3, .bool d3, .slice B3 m3 k3], .bool true]) (by simp [results, Tryz.results30, go_sem, e0, e1, e2, e3] <;> omega) rfl HE.out

set_option maxRecDepth 100000 in
set_option maxHeartbeats 2000000 in
theorem rof3_ft (N D : Int) (w : World) (h1 : -9223372036854775808 ≤ N) (h2 : N ≤ 9223372036854775807) (h3 : -9223372036854775808 ≤ D) (h4 : D ≤ 9223372036854775807) (hn : decide (N < 0) = false) (hd : decide (D < 0) = true) (h0 : D ≠ 0) :
    Calls Tryz.prog 30 #[.int .i64 N, .int .i64 D] w fun e w' => RatOfPost w w' e (Rat.divInt N D) true := by
  have g1 : (D == 0) = false := by rw [beq_eq_false_iff_ne]; exact h0
  have HN := Lib.hid hn
  have HD := Lib.hid hd
  have hN : ¬ N < 0 := of_decide_eq_false hn
  have hD : D < 0 := of_decide_eq_true hd
  have e1 : sg true N.natAbs = -N := by unfold sg; simp; omega
  have e2 : sg false D.natAbs = -D := by unfold sg; simp; omega
  have HY : Hid (0 < sg false D.natAbs) := by show _ < _; rw [e2]; omega
  have EQ : Hid (Rat.divInt (sg true N.natAbs) (sg false D.natAbs) = Rat.divInt N D) := by show _ = _; rw [e1, e2, Rat.neg_divInt_neg]
  have H1 := Lib.hid h1
  have H2 := Lib.hid h2
  have H3 := Lib.hid h3
  have H4 := Lib.hid h4
  clear hn hd hN hD e1 e2 h0 h1 h2 h3 h4
  go_enter Tryz.func30, Tryz.ntmps30
  go_wp2_with fail
  refine Calls.mono (rof_any N _ H1.out H2.out) ?_
  rintro e w1 ⟨v, rfl, h, hb⟩
  obtain ⟨b1, A1, n1, c1, rfl, e1, -, h⟩ := h.form
  obtain rfl : b1 = false := e1.trans HN.out
  clear e1
  replace h := (h.limk H1.out H2.out).mag
  have hB := bun (hb)
  have Kr_1 := Lib.hid (show Blk w1 (w.heap.size) 26 #[.bool false, .slice none 0 0, .bool false, .slice none 0 0] from (Blk.new _ _ (by simp) _ _).below hb)
  have n_1 := Lib.hid (h)
  have HB_1 := Lib.hid (hB)
  have hs_1 : w.heap.size ≤ w1.heap.size := HB_1.out.size
  have hz_1 : w.heap.size + 1 ≤ w1.heap.size := (by have h := hb.size; (try simp at h); omega)
  clear hB hb 
  go_wp2_with fail
  refine Calls.mono (rof_any D _ H3.out H4.out) ?_
  rintro e w2 ⟨v, rfl, h, hb⟩
  obtain ⟨b2, A2, n2, c2, rfl, e2, -, h⟩ := h.form
  obtain rfl : b2 = true := e2.trans HD.out
  clear e2
  replace h := (h.limk H3.out H4.out).mag
  have hB := bun (hb)
  have n_2 := Lib.hid (n_1.out.below hB)
  have Kr_2 := Lib.hid (Kr_1.out.below hB)
  have Kn_2 := Lib.hid (show Blk w2 (w1.heap.size) 24 #[.bool false, .slice A1 n1 c1] from (Blk.new _ _ (by simp) _ _).below hb)
  have d_2 := Lib.hid (h)
  have HB_2 := Lib.hid (below_trans HB_1.out hB)
  have hs_2 : w.heap.size ≤ w2.heap.size := HB_2.out.size
  have hz_2 : w1.heap.size + 1 ≤ w2.heap.size := (by have h := hb.size; (try simp at h); omega)
  clear hB hb n_1 Kr_1 HB_1
  obtain ⟨p10, p11, l1⟩ := Kn_2.out.use2
  go_wp2_with fail
  refine Calls.mono (r_plain (k := 2) (limQ_mk (limI_mk (b := true) (n_2.out.alloc_ _)) (limI_mk (b := false) (d_2.out.alloc_ _)) HY.out EQ.out) (by omega)) ?_
  rintro e w3 ⟨v, rfl, h, hb⟩
  obtain ⟨b3, A3, n3, c3, d3, B3, m3, k3, rfl, -, -, -, h1, h2⟩ := h.form
  have hB := bun (hb)
  have n_3 := Lib.hid (n_2.out.below hB)
  have d_3 := Lib.hid (d_2.out.below hB)
  have Kr_3 := Lib.hid (Kr_2.out.below hB)
  have Kn_3 := Lib.hid (Kn_2.out.below hB)
  have Kd_3 := Lib.hid (show Blk w3 (w2.heap.size) 24 #[.bool true, .slice A2 n2 c2] from (Blk.new _ _ (by simp) _ _).below hb)
  have z_3 := Lib.hid (h1)
  have z2_3 := Lib.hid (h2)
  have HB_3 := Lib.hid (below_trans HB_2.out hB)
  have hs_3 : w.heap.size ≤ w3.heap.size := HB_3.out.size
  have hz_3 : w2.heap.size + 1 ≤ w3.heap.size := (by have h := hb.size; (try simp at h); omega)
  clear hB hb n_2 d_2 Kr_2 Kn_2 HB_2 p10 p11 l1
  obtain ⟨p20, p21, p22, p23, l2⟩ := Kr_3.out.use4
  obtain ⟨r20, r21, r22, r23⟩ := Kr_3.out.into4
  go_wp2
  obtain ⟨WF, hWF⟩ : ∃ W, W = ((((w3.setCell ⟨w.heap.size, 0, none⟩ (.bool b3)).setCell ⟨w.heap.size, 1, none⟩ (.slice A3 n3 c3)).setCell ⟨w.heap.size, 2, none⟩ (.bool d3)).setCell ⟨w.heap.size, 3, none⟩ (.slice B3 m3 k3)) := ⟨_, rfl⟩
  rw [← hWF]
  have kq : Blk WF (w.heap.size) 26 #[.bool b3, .slice A3 n3 c3, .bool d3, .slice B3 m3 k3] := by rw [hWF]; exact Kr_3.out.own4
  have hBF : Below w.heap.size w WF := by rw [hWF]; exact Below.set4 (HB_3.out) (by first | omega | (simp; omega) | simp)
  have f1 : IsInt WF (.agg #[.bool b3, .slice A3 n3 c3]) (Rat.divInt N D).num := by rw [hWF]; exact z_3.out.other4 Kr_3.out nu nu nu nu
  have f2 : IsInt WF (.agg #[.bool d3, .slice B3 m3 k3]) ((Rat.divInt N D).den : Int) := by rw [hWF]; exact z2_3.out.other4 Kr_3.out nu nu nu nu
  have HE : Hid (RatOfPost w WF (Ending.returned (.tuple #[.agg #[.bool b3, .slice A3 n3 c3, .bool d3, .slice B3 m3 k3], .bool true])) (Rat.divInt N D) true) := ⟨_, rfl, ⟨_, _, _, _, rfl, f1, f2⟩, hBF⟩
  obtain ⟨e0, e1, e2, e3⟩ := kq.cells4
  clear hWF
  exact bodyPost_ret (v := .tuple #[.agg #[.bool b3, .slice A3 n3 c3, .bool d3, .slice B3 m3 k3], .bool true]) (by simp [results, Tryz.results30, go_sem, e0, e1, e2, e3] <;> omega) rfl HE.out

set_option maxRecDepth 100000 in
set_option maxHeartbeats 2000000 in
theorem rof3_ff (N D : Int) (w : World) (h1 : -9223372036854775808 ≤ N) (h2 : N ≤ 9223372036854775807) (h3 : -9223372036854775808 ≤ D) (h4 : D ≤ 9223372036854775807) (hn : decide (N < 0) = false) (hd : decide (D < 0) = false) (h0 : D ≠ 0) :
    Calls Tryz.prog 30 #[.int .i64 N, .int .i64 D] w fun e w' => RatOfPost w w' e (Rat.divInt N D) true := by
  have g1 : (D == 0) = false := by rw [beq_eq_false_iff_ne]; exact h0
  have HN := Lib.hid hn
  have HD := Lib.hid hd
  have hN : ¬ N < 0 := of_decide_eq_false hn
  have hD : ¬ D < 0 := of_decide_eq_false hd
  have e1 : sg false N.natAbs = N := by unfold sg; simp; omega
  have e2 : sg false D.natAbs = D := by unfold sg; simp; omega
  have HY : Hid (0 < sg false D.natAbs) := by show _ < _; rw [e2]; omega
  have EQ : Hid (Rat.divInt (sg false N.natAbs) (sg false D.natAbs) = Rat.divInt N D) := by show _ = _; rw [e1, e2]
  have H1 := Lib.hid h1
  have H2 := Lib.hid h2
  have H3 := Lib.hid h3
  have H4 := Lib.hid h4
  clear hn hd hN hD e1 e2 h0 h1 h2 h3 h4
  go_enter Tryz.func30, Tryz.ntmps30
  go_wp2_with fail
  refine Calls.mono (rof_any N _ H1.out H2.out) ?_
  rintro e w1 ⟨v, rfl, h, hb⟩
  obtain ⟨b1, A1, n1, c1, rfl, e1, -, h⟩ := h.form
  obtain rfl : b1 = false := e1.trans HN.out
  clear e1
  replace h := (h.limk H1.out H2.out).mag
  have hB := bun (hb)
  have Kr_1 := Lib.hid (show Blk w1 (w.heap.size) 26 #[.bool false, .slice none 0 0, .bool false, .slice none 0 0] from (Blk.new _ _ (by simp) _ _).below hb)
  have n_1 := Lib.hid (h)
  have HB_1 := Lib.hid (hB)
  have hs_1 : w.heap.size ≤ w1.heap.size := HB_1.out.size
  have hz_1 : w.heap.size + 1 ≤ w1.heap.size := (by have h := hb.size; (try simp at h); omega)
  clear hB hb 
  go_wp2_with fail
  refine Calls.mono (rof_any D _ H3.out H4.out) ?_
  rintro e w2 ⟨v, rfl, h, hb⟩
  obtain ⟨b2, A2, n2, c2, rfl, e2, -, h⟩ := h.form
  obtain rfl : b2 = false := e2.trans HD.out
  clear e2
  replace h := (h.limk H3.out H4.out).mag
  have hB := bun (hb)
  have n_2 := Lib.hid (n_1.out.below hB)
  have Kr_2 := Lib.hid (Kr_1.out.below hB)
  have Kn_2 := Lib.hid (show Blk w2 (w1.heap.size) 24 #[.bool false, .slice A1 n1 c1] from (Blk.new _ _ (by simp) _ _).below hb)
  have d_2 := Lib.hid (h)
  have HB_2 := Lib.hid (below_trans HB_1.out hB)
  have hs_2 : w.heap.size ≤ w2.heap.size := HB_2.out.size
  have hz_2 : w1.heap.size + 1 ≤ w2.heap.size := (by have h := hb.size; (try simp at h); omega)
  clear hB hb n_1 Kr_1 HB_1
  obtain ⟨p10, p11, l1⟩ := Kn_2.out.use2
  go_wp2_with fail
  refine Calls.mono (r_plain (k := 2) (limQ_mk (limI_mk (b := false) (n_2.out.alloc_ _)) (limI_mk (b := false) (d_2.out.alloc_ _)) HY.out EQ.out) (by omega)) ?_
  rintro e w3 ⟨v, rfl, h, hb⟩
  obtain ⟨b3, A3, n3, c3, d3, B3, m3, k3, rfl, -, -, -, h1, h2⟩ := h.form
  have hB := bun (hb)
  have n_3 := Lib.hid (n_2.out.below hB)
  have d_3 := Lib.hid (d_2.out.below hB)
  have Kr_3 := Lib.hid (Kr_2.out.below hB)
  have Kn_3 := Lib.hid (Kn_2.out.below hB)
  have Kd_3 := Lib.hid (show Blk w3 (w2.heap.size) 24 #[.bool false, .slice A2 n2 c2] from (Blk.new _ _ (by simp) _ _).below hb)
  have z_3 := Lib.hid (h1)
  have z2_3 := Lib.hid (h2)
  have HB_3 := Lib.hid (below_trans HB_2.out hB)
  have hs_3 : w.heap.size ≤ w3.heap.size := HB_3.out.size
  have hz_3 : w2.heap.size + 1 ≤ w3.heap.size := (by have h := hb.size; (try simp at h); omega)
  clear hB hb n_2 d_2 Kr_2 Kn_2 HB_2 p10 p11 l1
  obtain ⟨p20, p21, p22, p23, l2⟩ := Kr_3.out.use4
  obtain ⟨r20, r21, r22, r23⟩ := Kr_3.out.into4
  go_wp2
  obtain ⟨WF, hWF⟩ : ∃ W, W = ((((w3.setCell ⟨w.heap.size, 0, none⟩ (.bool b3)).setCell ⟨w.heap.size, 1, none⟩ (.slice A3 n3 c3)).setCell ⟨w.heap.size, 2, none⟩ (.bool d3)).setCell ⟨w.heap.size, 3, none⟩ (.slice B3 m3 k3)) := ⟨_, rfl⟩
  rw [← hWF]
  have kq : Blk WF (w.heap.size) 26 #[.bool b3, .slice A3 n3 c3, .bool d3, .slice B3 m3 k3] := by rw [hWF]; exact Kr_3.out.own4
  have hBF : Below w.heap.size w WF := by rw [hWF]; exact Below.set4 (HB_3.out) (by first | omega | (simp; omega) | simp)
  have f1 : IsInt WF (.agg #[.bool b3, .slice A3 n3 c3]) (Rat.divInt N D).num := by rw [hWF]; exact z_3.out.other4 Kr_3.out nu nu nu nu
  have f2 : IsInt WF (.agg #[.bool d3, .slice B3 m3 k3]) ((Rat.divInt N D).den : Int) := by rw [hWF]; exact z2_3.out.other4 Kr_3.out nu nu nu nu
  have HE : Hid (RatOfPost w WF (Ending.returned (.tuple #[.agg #[.bool b3, .slice A3 n3 c3, .bool d3, .slice B3 m3 k3], .bool true])) (Rat.divInt N D) true) := ⟨_, rfl, ⟨_, _, _, _, rfl, f1, f2⟩, hBF⟩
  obtain ⟨e0, e1, e2, e3⟩ := kq.cells4
  clear hWF
  exact bodyPost_ret (v := .tuple #[.agg #[.bool b3, .slice A3 n3 c3, .bool d3, .slice B3 m3 k3], .bool true]) (by simp [results, Tryz.results30, go_sem, e0, e1, e2, e3] <;> omega) rfl HE.out

theorem rof3_q (N D : Int) (w : World) (h1 : -9223372036854775808 ≤ N) (h2 : N ≤ 9223372036854775807) (h3 : -9223372036854775808 ≤ D) (h4 : D ≤ 9223372036854775807) : Calls Tryz.prog 30 #[.int .i64 N, .int .i64 D] w fun e w' => RatOfPost w w' e (Rat.divInt N D) (decide (D ≠ 0)) := by
  by_cases h : D = 0
  · rw [decide_eq_false (by omega)]
    have e : Rat.divInt N D = 0 := by rw [h]; exact Rat.divInt_zero N
    rw [e]; exact rof3_z N D w h
  · rw [decide_eq_true h]
    cases hn : decide (N < 0) <;> cases hd : decide (D < 0)
    · exact rof3_ff N D w h1 h2 h3 h4 hn hd h
    · exact rof3_ft N D w h1 h2 h3 h4 hn hd h
    · exact rof3_tf N D w h1 h2 h3 h4 hn hd h
    · exact rof3_tt N D w h1 h2 h3 h4 hn hd h
end Go.Proofs.YtglcififcldchaaGreatDoor
