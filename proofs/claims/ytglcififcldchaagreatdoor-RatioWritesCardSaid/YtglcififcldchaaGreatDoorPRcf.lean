/- The document's own fractions: Read. -/
import Derived.Test.YtglcififcldchaaGreatDoorPRcc
import Derived.Test.YtglcififcldchaaGreatDoorPRod
namespace Go.Proofs.YtglcififcldchaaGreatDoor
open Go.RowKit
attribute [local go_sem ↓] Go.wp_at_zero Go.wp_at_succ
set_option linter.unusedVariables false

theorem rreadI_is {w : World} {v : Value} {n m : Nat} {f : Nat → Nat} {b : Bool} {X : Int} {g : Nat → Nat} (h1 : intRB f n = b) (h2 : intRV f n = X) (h3 : intRM f n = m) (h4 : readG (tl f) = g) (h : Byt w v n f) (hn : n ≤ 1000000) : Calls Tryz.prog 83 #[v] w fun e w' => ReadResI w w' e b X m g := by
  subst h1 h2 h3 h4
  exact byt_rreadI h hn

set_option maxRecDepth 100000 in
set_option maxHeartbeats 1000000 in
theorem pdiffer_n (b : Bool) (A : Option Addr) (n c : Nat) (b' : Bool) (A' : Option Addr) (n' c' : Nat) (p : Bool) (P : Option Addr) (m d : Nat) (p' : Bool) (P' : Option Addr) (m' d' : Nat) (w : World) (k : Nat) (X Y X' Y' : Int) (s1 : IsInt w (.agg #[.bool b, .slice A n c]) X) (s2 : IsInt w (.agg #[.bool b', .slice A' n' c']) Y) (s3 : IsInt w (.agg #[.bool p, .slice P m d]) X') (s4 : IsInt w (.agg #[.bool p', .slice P' m' d']) Y') (b1 : X.natAbs < 4294967296 ^ k) (b2 : Y.natAbs < 4294967296 ^ k) (b3 : X'.natAbs < 4294967296 ^ k) (b4 : Y'.natAbs < 4294967296 ^ k) (hk : k ≤ 1000000) (hne : X ≠ X') :
    Calls Tryz.prog 18 #[(.agg #[.bool b, .slice A n c, .bool b', .slice A' n' c']), (.agg #[.bool p, .slice P m d, .bool p', .slice P' m' d'])] w fun e w' => e = .returned (.bool false) ∧ Below w.heap.size w w' := by
  have BN := Lib.hid b1
  have BD := Lib.hid b2
  have BN' := Lib.hid b3
  have BD' := Lib.hid b4
  have HN := Lib.hid hne
  have x_0 := Lib.hid s1
  have y_0 := Lib.hid s2
  have u_0 := Lib.hid s3
  have v_0 := Lib.hid s4
  clear s1 s2 s3 s4 b1 b2 b3 b4 hne
  go_enter Tryz.func18, Tryz.ntmps18
  go_wp2_with fail
  refine Calls.mono (isInt_differ ((x_0.out.alloc_ _).alloc_ _) ((u_0.out.alloc_ _).alloc_ _) BN.out BN'.out (by omega) HN.out) ?_
  rintro e w1 ⟨rfl, hb⟩
  have hB := bun (bun (hb))
  have x_1 := Lib.hid (x_0.out.below hB)
  have y_1 := Lib.hid (y_0.out.below hB)
  have u_1 := Lib.hid (u_0.out.below hB)
  have v_1 := Lib.hid (v_0.out.below hB)
  have Ka_1 := Lib.hid (show Blk w1 (w.heap.size) 26 #[.bool b, .slice A n c, .bool b', .slice A' n' c'] from ((Blk.new _ _ (by simp) _ _).alloc_ _).below hb)
  have Kb_1 := Lib.hid (show Blk w1 (w.heap.size + 1) 26 #[.bool p, .slice P m d, .bool p', .slice P' m' d'] from (Blk.new _ _ (by simp) _ _).below hb)
  have HB_1 := Lib.hid (hB)
  have hs_1 : w.heap.size ≤ w1.heap.size := HB_1.out.size
  have hz_1 : w.heap.size + 2 ≤ w1.heap.size := (by have h := hb.size; (try simp at h); omega)
  clear hB hb x_0 y_0 u_0 v_0
  go_wp2
  go_ret
  exact ⟨rfl, HB_1.out⟩

set_option maxRecDepth 100000 in
set_option maxHeartbeats 1000000 in
theorem pdiffer_d (b : Bool) (A : Option Addr) (n c : Nat) (b' : Bool) (A' : Option Addr) (n' c' : Nat) (p : Bool) (P : Option Addr) (m d : Nat) (p' : Bool) (P' : Option Addr) (m' d' : Nat) (w : World) (k : Nat) (X Y X' Y' : Int) (s1 : IsInt w (.agg #[.bool b, .slice A n c]) X) (s2 : IsInt w (.agg #[.bool b', .slice A' n' c']) Y) (s3 : IsInt w (.agg #[.bool p, .slice P m d]) X') (s4 : IsInt w (.agg #[.bool p', .slice P' m' d']) Y') (b1 : X.natAbs < 4294967296 ^ k) (b2 : Y.natAbs < 4294967296 ^ k) (b3 : X'.natAbs < 4294967296 ^ k) (b4 : Y'.natAbs < 4294967296 ^ k) (hk : k ≤ 1000000) (he : X = X') (hne : Y ≠ Y') :
    Calls Tryz.prog 18 #[(.agg #[.bool b, .slice A n c, .bool b', .slice A' n' c']), (.agg #[.bool p, .slice P m d, .bool p', .slice P' m' d'])] w fun e w' => e = .returned (.bool false) ∧ Below w.heap.size w w' := by
  subst he
  have BN := Lib.hid b1
  have BD := Lib.hid b2
  have BN' := Lib.hid b3
  have BD' := Lib.hid b4
  have HN := Lib.hid hne
  have x_0 := Lib.hid s1
  have y_0 := Lib.hid s2
  have u_0 := Lib.hid s3
  have v_0 := Lib.hid s4
  clear s1 s2 s3 s4 b1 b2 b3 b4 hne
  go_enter Tryz.func18, Tryz.ntmps18
  go_wp2_with fail
  refine Calls.mono (isInt_same ((x_0.out.alloc_ _).alloc_ _) ((u_0.out.alloc_ _).alloc_ _) BN.out (by omega)) ?_
  rintro e w1 ⟨rfl, hb⟩
  have hB := bun (bun (hb))
  have y_1 := Lib.hid (y_0.out.below hB)
  have v_1 := Lib.hid (v_0.out.below hB)
  have Ka_1 := Lib.hid (show Blk w1 (w.heap.size) 26 #[.bool b, .slice A n c, .bool b', .slice A' n' c'] from ((Blk.new _ _ (by simp) _ _).alloc_ _).below hb)
  have Kb_1 := Lib.hid (show Blk w1 (w.heap.size + 1) 26 #[.bool p, .slice P m d, .bool p', .slice P' m' d'] from (Blk.new _ _ (by simp) _ _).below hb)
  have HB_1 := Lib.hid (hB)
  have hs_1 : w.heap.size ≤ w1.heap.size := HB_1.out.size
  have hz_1 : w.heap.size + 2 ≤ w1.heap.size := (by have h := hb.size; (try simp at h); omega)
  clear hB hb x_0 y_0 u_0 v_0
  obtain ⟨p10, p11, p12, p13, l1⟩ := Ka_1.out.use4
  obtain ⟨p20, p21, p22, p23, l2⟩ := Kb_1.out.use4
  go_wp2_with fail
  refine Calls.mono (isInt_differ y_1.out v_1.out BD.out BD'.out (by omega) HN.out) ?_
  rintro e w2 ⟨rfl, hb⟩
  have hB := hb
  have y_2 := Lib.hid (y_1.out.below hB)
  have v_2 := Lib.hid (v_1.out.below hB)
  have Ka_2 := Lib.hid (Ka_1.out.below hB)
  have Kb_2 := Lib.hid (Kb_1.out.below hB)
  have HB_2 := Lib.hid (below_trans HB_1.out hB)
  have hs_2 : w.heap.size ≤ w2.heap.size := HB_2.out.size
  have hz_2 : w1.heap.size + 0 ≤ w2.heap.size := (by have h := hb.size; (try simp at h); omega)
  clear hB hb y_1 v_1 Ka_1 Kb_1 HB_1 p10 p11 p12 p13 l1 p20 p21 p22 p23 l2
  go_wp2
  go_ret
  exact ⟨rfl, HB_2.out⟩

/-- A fraction against numbers that stand for it, but aren't plain. -/
theorem differ_plain {k : Nat} {w : World} {v : Value} {b : Bool} {A : Option Addr} {n c : Nat} {b' : Bool} {A' : Option Addr} {n' c' : Nat} {q : Rat} {X Y : Int} (hq : IsRat w v q) (hX : IsInt w (.agg #[.bool b, .slice A n c]) X) (hY : IsInt w (.agg #[.bool b', .slice A' n' c']) Y) (b1 : X.natAbs < 4294967296 ^ k) (b2 : Y.natAbs < 4294967296 ^ k) (hB : BQ k q) (hk : k ≤ 100000) (hne : ¬ (q.num = X ∧ (q.den : Int) = Y)) :
    Calls Tryz.prog 18 #[v, (.agg #[.bool b, .slice A n c, .bool b', .slice A' n' c'])] w fun e w' => e = .returned (.bool false) ∧ Below w.heap.size w w' := by
  obtain ⟨p, P, m, d, p', P', m', d', rfl, -, -, -, h1, h2⟩ := hq.form
  by_cases h : q.num = X
  · exact pdiffer_d p P m d p' P' m' d' b A n c b' A' n' c' w k _ _ _ _ h1 h2 hX hY hB.1 (show ((q.den : Int)).natAbs < _ from hB.2) b1 b2 (by omega) h (fun e => hne ⟨h, e⟩)
  · exact pdiffer_n p P m d p' P' m' d' b A n c b' A' n' c' w k _ _ _ _ h1 h2 hX hY hB.1 (show ((q.den : Int)).natAbs < _ from hB.2) b1 b2 (by omega) h
theorem cop_not {X Y : Int} (hY : 0 < Y) (hg : Int.gcd X Y ≠ 1) : ¬ ((ratOf X Y).num = X ∧ ((ratOf X Y).den : Int) = Y) := by
  rintro ⟨-, h⟩
  unfold ratOf at h
  rw [if_pos hY] at h
  obtain ⟨-, h2, h3⟩ := divInt_parts X hY
  rw [h] at h2
  have h4 : Y * (Int.gcd X Y : Int) = Y * 1 := by rw [h2, Int.mul_one]
  have := Int.eq_of_mul_eq_mul_left (by omega) h4
  omega
theorem cop_yes {X Y : Int} (hY : 0 < Y) (hg : Int.gcd X Y = 1) : (ratOf X Y).num = X ∧ ((ratOf X Y).den : Int) = Y := by
  unfold ratOf
  rw [if_pos hY]
  exact divInt_cop hY hg

set_option maxRecDepth 100000 in
set_option maxHeartbeats 2000000 in
theorem rqread_no1 (A : Option Addr) (n c : Nat) (f : Nat → Nat) (w : World) (hn : n ≤ 100000) (hb : Byt w (.slice A n c) n f) (X : Int) (m : Nat) (f1 : Nat → Nat) (h1 : intRB f n = false) (h2 : intRV f n = X) (h3 : intRM f n = m) (h4 : readG (tl f) = f1) (g : Nat → Nat) :
    Calls Tryz.prog 42 #[.slice A n c] w fun e w' => ReadResQ w w' e false 0 0 g := by
  have hm : m ≤ n := by rw [← h3]; exact intRM_le f n
  have y_0 := Lib.hid hb
  have F1 := Lib.hid h1
  have F2 := Lib.hid h2
  have F3 := Lib.hid h3
  have F4 := Lib.hid h4
  clear hb h1 h2 h3 h4
  go_enter Tryz.func42, Tryz.ntmps42
  go_wp2_with fail
  refine Calls.mono (rreadI_is F1.out F2.out F3.out F4.out (y_0.out.alloc_ _) (by omega)) ?_
  rintro e w1 ⟨va, vb, rfl, h, hy, hb⟩
  obtain ⟨b1, A1, n1, c1, rfl, -, -, h⟩ := h.form
  obtain ⟨S1, s1, rfl, hy⟩ := hy.form
  have hB := bun (hb)
  have Kr_1 := Lib.hid (show Blk w1 (w.heap.size) 26 #[.bool false, .slice none 0 0, .bool false, .slice none 0 0] from (Blk.new _ _ (by simp) _ _).below hb)
  have HB_1 := Lib.hid (hB)
  have hs_1 : w.heap.size ≤ w1.heap.size := HB_1.out.size
  have hz_1 : w.heap.size + 1 ≤ w1.heap.size := (by have h := hb.size; (try simp at h); omega)
  clear hB hb y_0
  go_wp2_with fail
  refine Calls.mono (rzero_any _) ?_
  rintro e w2 ⟨v, rfl, h, hb⟩
  obtain ⟨b2, A2, n2, c2, d2, B2, m2, k2, rfl, -, -, -, h1, h2⟩ := h.form
  have hB := bun (hb)
  have Kr_2 := Lib.hid (Kr_1.out.below hB)
  have Kn_2 := Lib.hid (show Blk w2 (w1.heap.size) 24 #[.bool b1, .slice A1 n1 c1] from (Blk.new _ _ (by simp) _ _).below hb)
  have z_2 := Lib.hid (h1)
  have z2_2 := Lib.hid (h2)
  have HB_2 := Lib.hid (below_trans HB_1.out hB)
  have hs_2 : w.heap.size ≤ w2.heap.size := HB_2.out.size
  have hz_2 : w1.heap.size + 1 ≤ w2.heap.size := (by have h := hb.size; (try simp at h); omega)
  clear hB hb Kr_1 HB_1
  obtain ⟨p10, p11, p12, p13, l1⟩ := Kr_2.out.use4
  obtain ⟨r10, r11, r12, r13⟩ := Kr_2.out.into4
  go_wp2
  obtain ⟨WF, hWF⟩ : ∃ W, W = ((((w2.setCell ⟨w.heap.size, 0, none⟩ (.bool b2)).setCell ⟨w.heap.size, 1, none⟩ (.slice A2 n2 c2)).setCell ⟨w.heap.size, 2, none⟩ (.bool d2)).setCell ⟨w.heap.size, 3, none⟩ (.slice B2 m2 k2)) := ⟨_, rfl⟩
  rw [← hWF]
  have kq : Blk WF (w.heap.size) 26 #[.bool b2, .slice A2 n2 c2, .bool d2, .slice B2 m2 k2] := by rw [hWF]; exact Kr_2.out.own4
  have hBF : Below w.heap.size w WF := by rw [hWF]; exact Below.set4 (HB_2.out) (by first | omega | (simp; omega) | simp)
  have f1 : IsInt WF (.agg #[.bool b2, .slice A2 n2 c2]) (0 : Rat).num := by rw [hWF]; exact z_2.out.other4 Kr_2.out nu nu nu nu
  have f2 : IsInt WF (.agg #[.bool d2, .slice B2 m2 k2]) ((0 : Rat).den : Int) := by rw [hWF]; exact z2_2.out.other4 Kr_2.out nu nu nu nu
  have HE : Hid (ReadResQ w WF (Ending.returned (.tuple #[.agg #[.bool b2, .slice A2 n2 c2, .bool d2, .slice B2 m2 k2], .slice none 0 0, .bool false])) false 0 0 g) := ⟨_, _, rfl, ⟨_, _, _, _, rfl, f1, f2⟩, byt_nil _ _, hBF⟩
  obtain ⟨e0, e1, e2, e3⟩ := kq.cells4
  clear hWF
  exact bodyPost_ret (v := .tuple #[.agg #[.bool b2, .slice A2 n2 c2, .bool d2, .slice B2 m2 k2], .slice none 0 0, .bool false]) (by simp [results, Tryz.results42, go_sem, e0, e1, e2, e3] <;> omega) rfl HE.out

set_option maxRecDepth 100000 in
set_option maxHeartbeats 2000000 in
theorem rqread_no2 (A : Option Addr) (n c : Nat) (f : Nat → Nat) (w : World) (hn : n ≤ 100000) (hb : Byt w (.slice A n c) n f) (X : Int) (m : Nat) (f1 : Nat → Nat) (h1 : intRB f n = true) (h2 : intRV f n = X) (h3 : intRM f n = m) (h4 : readG (tl f) = f1) (Y : Int) (m2 : Nat) (f2 : Nat → Nat) (h5 : intRB f1 m = false) (h6 : intRV f1 m = Y) (h7 : intRM f1 m = m2) (h8 : readG (tl f1) = f2) (g : Nat → Nat) :
    Calls Tryz.prog 42 #[.slice A n c] w fun e w' => ReadResQ w w' e false 0 0 g := by
  have hm : m ≤ n := by rw [← h3]; exact intRM_le f n
  have y_0 := Lib.hid hb
  have F1 := Lib.hid h1
  have F2 := Lib.hid h2
  have F3 := Lib.hid h3
  have F4 := Lib.hid h4
  clear hb h1 h2 h3 h4
  have hm2 : m2 ≤ m := by rw [← h7]; exact intRM_le f1 m
  have F5 := Lib.hid h5
  have F6 := Lib.hid h6
  have F7 := Lib.hid h7
  have F8 := Lib.hid h8
  clear h5 h6 h7 h8
  go_enter Tryz.func42, Tryz.ntmps42
  go_wp2_with fail
  refine Calls.mono (rreadI_is F1.out F2.out F3.out F4.out (y_0.out.alloc_ _) (by omega)) ?_
  rintro e w1 ⟨va, vb, rfl, h, hy, hb⟩
  obtain ⟨b1, A1, n1, c1, rfl, -, -, h⟩ := h.form
  obtain ⟨S1, s1, rfl, hy⟩ := hy.form
  have hB := bun (hb)
  have Kr_1 := Lib.hid (show Blk w1 (w.heap.size) 26 #[.bool false, .slice none 0 0, .bool false, .slice none 0 0] from (Blk.new _ _ (by simp) _ _).below hb)
  have y_1 := Lib.hid (hy)
  have x_1 := Lib.hid (h)
  have HB_1 := Lib.hid (hB)
  have hs_1 : w.heap.size ≤ w1.heap.size := HB_1.out.size
  have hz_1 : w.heap.size + 1 ≤ w1.heap.size := (by have h := hb.size; (try simp at h); omega)
  clear hB hb y_0
  go_wp2_with fail
  refine Calls.mono (rreadI_is F5.out F6.out F7.out F8.out (y_1.out.alloc_ _) (by omega)) ?_
  rintro e w2 ⟨va, vb, rfl, h, hy, hb⟩
  obtain ⟨b2, A2, n2, c2, rfl, -, -, h⟩ := h.form
  obtain ⟨S2, s2, rfl, hy⟩ := hy.form
  have hB := bun (hb)
  have x_2 := Lib.hid (x_1.out.below hB)
  have Kr_2 := Lib.hid (Kr_1.out.below hB)
  have Kn_2 := Lib.hid (show Blk w2 (w1.heap.size) 24 #[.bool b1, .slice A1 n1 c1] from (Blk.new _ _ (by simp) _ _).below hb)
  have y_2 := Lib.hid (hy)
  have u_2 := Lib.hid (h)
  have HB_2 := Lib.hid (below_trans HB_1.out hB)
  have hs_2 : w.heap.size ≤ w2.heap.size := HB_2.out.size
  have hz_2 : w1.heap.size + 1 ≤ w2.heap.size := (by have h := hb.size; (try simp at h); omega)
  clear hB hb y_1 x_1 Kr_1 HB_1
  obtain ⟨p10, p11, l1⟩ := Kn_2.out.use2
  obtain ⟨p20, p21, p22, p23, l2⟩ := Kr_2.out.use4
  obtain ⟨r20, r21, r22, r23⟩ := Kr_2.out.into4
  go_wp2
  generalize hW : ((w2.alloc (.cells #[.bool b2, .slice A2 n2 c2] 24)).alloc (.cells #[.bool b1, .slice A1 n1 c1, .bool b2, .slice A2 n2 c2] 26)) = w3
  have x_3 := Lib.hid (hW ▸ ((x_2.out.alloc_ _).alloc_ _))
  have y_3 := Lib.hid (hW ▸ ((y_2.out.alloc_ _).alloc_ _))
  have u_3 := Lib.hid (hW ▸ ((u_2.out.alloc_ _).alloc_ _))
  have Kr_3 := Lib.hid (show Blk w3 (w.heap.size) 26 #[.bool false, .slice none 0 0, .bool false, .slice none 0 0] from by rw [← hW]; exact ((Kr_2.out.alloc_ _).alloc_ _))
  have Kn_3 := Lib.hid (show Blk w3 (w1.heap.size) 24 #[.bool b1, .slice A1 n1 c1] from by rw [← hW]; exact ((Kn_2.out.alloc_ _).alloc_ _))
  have Kd_3 := Lib.hid (show Blk w3 (w2.heap.size) 24 #[.bool b2, .slice A2 n2 c2] from by rw [← hW]; exact (Blk.new _ _ (by simp) _ _).alloc_ _)
  have Ka_3 := Lib.hid (show Blk w3 (w2.heap.size + 1) 26 #[.bool b1, .slice A1 n1 c1, .bool b2, .slice A2 n2 c2] from by rw [← hW]; exact Blk.new _ _ (by simp) _ _)
  have HB_3 := Lib.hid (show Below w.heap.size w w3 from by rw [← hW]; exact halloc (halloc (HB_2.out)))
  have hs_3 : w.heap.size ≤ w3.heap.size := HB_3.out.size
  have hz_3 : w2.heap.size + 2 ≤ w3.heap.size := by rw [← hW]; simp
  clear hW x_2 y_2 u_2 Kr_2 Kn_2 HB_2 p10 p11 l1 p20 p21 p22 p23 l2 r20 r21 r22 r23
  obtain ⟨p30, p31, p32, p33, l3⟩ := Ka_3.out.use4
  go_region
  go_wp2_with fail
  generalize hW : w3.drew = w4
  have x_4 := Lib.hid (hW ▸ x_3.out.drew_)
  have y_4 := Lib.hid (hW ▸ y_3.out.drew_)
  have u_4 := Lib.hid (hW ▸ u_3.out.drew_)
  have Kr_4 := Lib.hid (show Blk w4 (w.heap.size) 26 #[.bool false, .slice none 0 0, .bool false, .slice none 0 0] from by rw [← hW]; exact Kr_3.out.drew_)
  have Kn_4 := Lib.hid (show Blk w4 (w1.heap.size) 24 #[.bool b1, .slice A1 n1 c1] from by rw [← hW]; exact Kn_3.out.drew_)
  have Kd_4 := Lib.hid (show Blk w4 (w2.heap.size) 24 #[.bool b2, .slice A2 n2 c2] from by rw [← hW]; exact Kd_3.out.drew_)
  have Ka_4 := Lib.hid (show Blk w4 (w2.heap.size + 1) 26 #[.bool b1, .slice A1 n1 c1, .bool b2, .slice A2 n2 c2] from by rw [← hW]; exact Ka_3.out.drew_)
  have HB_4 := Lib.hid (show Below w.heap.size w w4 from by rw [← hW]; exact HB_3.out.drew)
  have hs_4 : w.heap.size ≤ w4.heap.size := HB_4.out.size
  have hz_4 : w3.heap.size ≤ w4.heap.size := by rw [← hW]; simp
  clear hW x_3 y_3 u_3 Kr_3 Kn_3 Kd_3 Ka_3 HB_3 p30 p31 p32 p33 l3
  obtain ⟨p40, p41, p42, p43, l4⟩ := Kr_4.out.use4
  refine Calls.mono (rzero_any _) ?_
  rintro e w5 ⟨v, rfl, h, hb⟩
  obtain ⟨b5, A5, n5, c5, d5, B5, m5, k5, rfl, -, -, -, h1, h2⟩ := h.form
  have hB := hb
  have x_5 := Lib.hid (x_4.out.below hB)
  have y_5 := Lib.hid (y_4.out.below hB)
  have u_5 := Lib.hid (u_4.out.below hB)
  have Kr_5 := Lib.hid (Kr_4.out.below hB)
  have Kn_5 := Lib.hid (Kn_4.out.below hB)
  have Kd_5 := Lib.hid (Kd_4.out.below hB)
  have Ka_5 := Lib.hid (Ka_4.out.below hB)
  have z_5 := Lib.hid (h1)
  have z2_5 := Lib.hid (h2)
  have HB_5 := Lib.hid (below_trans HB_4.out hB)
  have hs_5 : w.heap.size ≤ w5.heap.size := HB_5.out.size
  have hz_5 : w4.heap.size + 0 ≤ w5.heap.size := (by have h := hb.size; (try simp at h); omega)
  clear hB hb x_4 y_4 u_4 Kr_4 Kn_4 Kd_4 Ka_4 HB_4 p40 p41 p42 p43 l4
  obtain ⟨p50, p51, p52, p53, l5⟩ := Kr_5.out.use4
  obtain ⟨r50, r51, r52, r53⟩ := Kr_5.out.into4
  go_wp2
  obtain ⟨WF, hWF⟩ : ∃ W, W = ((((w5.setCell ⟨w.heap.size, 0, none⟩ (.bool b5)).setCell ⟨w.heap.size, 1, none⟩ (.slice A5 n5 c5)).setCell ⟨w.heap.size, 2, none⟩ (.bool d5)).setCell ⟨w.heap.size, 3, none⟩ (.slice B5 m5 k5)) := ⟨_, rfl⟩
  rw [← hWF]
  have kq : Blk WF (w.heap.size) 26 #[.bool b5, .slice A5 n5 c5, .bool d5, .slice B5 m5 k5] := by rw [hWF]; exact Kr_5.out.own4
  have hBF : Below w.heap.size w WF := by rw [hWF]; exact Below.set4 (HB_5.out) (by first | omega | (simp; omega) | simp)
  have f1 : IsInt WF (.agg #[.bool b5, .slice A5 n5 c5]) (0 : Rat).num := by rw [hWF]; exact z_5.out.other4 Kr_5.out nu nu nu nu
  have f2 : IsInt WF (.agg #[.bool d5, .slice B5 m5 k5]) ((0 : Rat).den : Int) := by rw [hWF]; exact z2_5.out.other4 Kr_5.out nu nu nu nu
  have HE : Hid (ReadResQ w WF (Ending.returned (.tuple #[.agg #[.bool b5, .slice A5 n5 c5, .bool d5, .slice B5 m5 k5], .slice none 0 0, .bool false])) false 0 0 g) := ⟨_, _, rfl, ⟨_, _, _, _, rfl, f1, f2⟩, byt_nil _ _, hBF⟩
  obtain ⟨e0, e1, e2, e3⟩ := kq.cells4
  clear hWF
  exact bodyPost_ret (v := .tuple #[.agg #[.bool b5, .slice A5 n5 c5, .bool d5, .slice B5 m5 k5], .slice none 0 0, .bool false]) (by simp [results, Tryz.results42, go_sem, e0, e1, e2, e3] <;> omega) rfl HE.out

theorem ratof_bq {f : Nat → Nat} {n : Nat} {X Y : Int} (b1 : X.natAbs < 4294967296 ^ n) (b2 : Y.natAbs < 4294967296 ^ n) (h : intRB f n = true) : BQ n (ratOf X Y) := by
  have hn : 0 < n := by
    unfold intRB at h
    exact (of_decide_eq_true h).1
  unfold ratOf
  split
  · exact divInt_bq ‹_› b1 b2 (Nat.le_refl _) (Nat.le_refl _)
  · exact bq_zero (by omega)
theorem irat_of {w : World} {b b' : Bool} {m m' : Value} {X Y : Int} {q : Rat} (h : IsInt w (.agg #[.bool b, m]) X) (h' : IsInt w (.agg #[.bool b', m']) Y) (hq : q.num = X ∧ (q.den : Int) = Y) : IsRat w (.agg #[.bool b, m, .bool b', m']) q :=
  ⟨_, _, _, _, rfl, by rw [hq.1]; exact h, by rw [hq.2]; exact h'⟩

set_option maxRecDepth 100000 in
set_option maxHeartbeats 4000000 in
theorem rqread_no3 (A : Option Addr) (n c : Nat) (f : Nat → Nat) (w : World) (hn : n ≤ 100000) (hb : Byt w (.slice A n c) n f) (X : Int) (m : Nat) (f1 : Nat → Nat) (h1 : intRB f n = true) (h2 : intRV f n = X) (h3 : intRM f n = m) (h4 : readG (tl f) = f1) (Y : Int) (m2 : Nat) (f2 : Nat → Nat) (h5 : intRB f1 m = true) (h6 : intRV f1 m = Y) (h7 : intRM f1 m = m2) (h8 : readG (tl f1) = f2) (h9 : decide (0 < Y) = false) (g : Nat → Nat) :
    Calls Tryz.prog 42 #[.slice A n c] w fun e w' => ReadResQ w w' e false 0 0 g := by
  have bx := intRV_lt (f := f) (n := n) (by obtain ⟨_, _, _, _, _, h⟩ := hb; exact h)
  rw [h2] at bx
  have BX := Lib.hid bx
  clear bx
  have hm : m ≤ n := by rw [← h3]; exact intRM_le f n
  have y_0 := Lib.hid hb
  have F1 := Lib.hid h1
  have F2 := Lib.hid h2
  have F3 := Lib.hid h3
  have F4 := Lib.hid h4
  clear hb h1 h2 h3 h4
  have hm2 : m2 ≤ m := by rw [← h7]; exact intRM_le f1 m
  have F5 := Lib.hid h5
  have F6 := Lib.hid h6
  have F7 := Lib.hid h7
  have F8 := Lib.hid h8
  clear h5 h6 h7 h8
  have HM := Lib.hid h9
  clear h9
  go_enter Tryz.func42, Tryz.ntmps42
  go_wp2_with fail
  refine Calls.mono (rreadI_is F1.out F2.out F3.out F4.out (y_0.out.alloc_ _) (by omega)) ?_
  rintro e w1 ⟨va, vb, rfl, h, hy, hb⟩
  obtain ⟨b1, A1, n1, c1, rfl, -, -, h⟩ := h.form
  obtain ⟨S1, s1, rfl, hy⟩ := hy.form
  have bu := intRV_lt (f := f1) (n := m) hy.small
  rw [F6.out] at bu
  have BU := Lib.hid (pow_up bu hm)
  clear bu
  have hB := bun (hb)
  have Kr_1 := Lib.hid (show Blk w1 (w.heap.size) 26 #[.bool false, .slice none 0 0, .bool false, .slice none 0 0] from (Blk.new _ _ (by simp) _ _).below hb)
  have y_1 := Lib.hid (hy)
  have x_1 := Lib.hid (h)
  have HB_1 := Lib.hid (hB)
  have hs_1 : w.heap.size ≤ w1.heap.size := HB_1.out.size
  have hz_1 : w.heap.size + 1 ≤ w1.heap.size := (by have h := hb.size; (try simp at h); omega)
  clear hB hb y_0
  go_wp2_with fail
  refine Calls.mono (rreadI_is F5.out F6.out F7.out F8.out (y_1.out.alloc_ _) (by omega)) ?_
  rintro e w2 ⟨va, vb, rfl, h, hy, hb⟩
  obtain ⟨b2, A2, n2, c2, rfl, -, -, h⟩ := h.form
  obtain ⟨S2, s2, rfl, hy⟩ := hy.form
  have hB := bun (hb)
  have x_2 := Lib.hid (x_1.out.below hB)
  have Kr_2 := Lib.hid (Kr_1.out.below hB)
  have Kn_2 := Lib.hid (show Blk w2 (w1.heap.size) 24 #[.bool b1, .slice A1 n1 c1] from (Blk.new _ _ (by simp) _ _).below hb)
  have y_2 := Lib.hid (hy)
  have u_2 := Lib.hid (h)
  have HB_2 := Lib.hid (below_trans HB_1.out hB)
  have hs_2 : w.heap.size ≤ w2.heap.size := HB_2.out.size
  have hz_2 : w1.heap.size + 1 ≤ w2.heap.size := (by have h := hb.size; (try simp at h); omega)
  clear hB hb y_1 x_1 Kr_1 HB_1
  obtain ⟨p10, p11, l1⟩ := Kn_2.out.use2
  obtain ⟨p20, p21, p22, p23, l2⟩ := Kr_2.out.use4
  obtain ⟨r20, r21, r22, r23⟩ := Kr_2.out.into4
  go_wp2
  generalize hW : ((w2.alloc (.cells #[.bool b2, .slice A2 n2 c2] 24)).alloc (.cells #[.bool b1, .slice A1 n1 c1, .bool b2, .slice A2 n2 c2] 26)) = w3
  have x_3 := Lib.hid (hW ▸ ((x_2.out.alloc_ _).alloc_ _))
  have y_3 := Lib.hid (hW ▸ ((y_2.out.alloc_ _).alloc_ _))
  have u_3 := Lib.hid (hW ▸ ((u_2.out.alloc_ _).alloc_ _))
  have Kr_3 := Lib.hid (show Blk w3 (w.heap.size) 26 #[.bool false, .slice none 0 0, .bool false, .slice none 0 0] from by rw [← hW]; exact ((Kr_2.out.alloc_ _).alloc_ _))
  have Kn_3 := Lib.hid (show Blk w3 (w1.heap.size) 24 #[.bool b1, .slice A1 n1 c1] from by rw [← hW]; exact ((Kn_2.out.alloc_ _).alloc_ _))
  have Kd_3 := Lib.hid (show Blk w3 (w2.heap.size) 24 #[.bool b2, .slice A2 n2 c2] from by rw [← hW]; exact (Blk.new _ _ (by simp) _ _).alloc_ _)
  have Ka_3 := Lib.hid (show Blk w3 (w2.heap.size + 1) 26 #[.bool b1, .slice A1 n1 c1, .bool b2, .slice A2 n2 c2] from by rw [← hW]; exact Blk.new _ _ (by simp) _ _)
  have HB_3 := Lib.hid (show Below w.heap.size w w3 from by rw [← hW]; exact halloc (halloc (HB_2.out)))
  have hs_3 : w.heap.size ≤ w3.heap.size := HB_3.out.size
  have hz_3 : w2.heap.size + 2 ≤ w3.heap.size := by rw [← hW]; simp
  clear hW x_2 y_2 u_2 Kr_2 Kn_2 HB_2 p10 p11 l1 p20 p21 p22 p23 l2 r20 r21 r22 r23
  obtain ⟨p30, p31, p32, p33, l3⟩ := Ka_3.out.use4
  have tok0 : True := trivial
  refine wp_region_held_drew (S := (fun w' => w'.cell? ⟨w2.heap.size + 1, 0, none⟩ = some (.bool b1) ∧ w'.cell? ⟨w2.heap.size + 1, 1, none⟩ = some (.slice A1 n1 c1) ∧ w'.cell? ⟨w2.heap.size + 1, 2, none⟩ = some (.bool b2) ∧ w'.cell? ⟨w2.heap.size + 1, 3, none⟩ = some (.slice A2 n2 c2))) (by kernel_rfl) ?_ (fun hHeld => ?_)
  · (first | (refine ⟨?_, ?_, ?_, ?_⟩ <;> (first | with_reducible assumption | ((with_reducible refine Eq.trans (cell_drew _ _) ?_); with_reducible assumption) | ((rw [cell_far4 _ _ _ _ _ _ _ _ (by omega)]); with_reducible assumption) | ((repeat rw [cell_far2 _ _ _ _ _ _ (by omega)]); with_reducible assumption) | go_keep)) | trivial | go_keep)
  refine wpAnyH_take (i := 0) (v := ?_) rfl (by kernel_rfl) (by kernel_rfl) (by kernel_rfl) (fun _ _ _ h => h) (Or.inl ⟨by kernel_rfl, ?_⟩) (by assumption) ?_
  rotate_left
  · intro w hSw; (try dsimp only at hSw); go_simp <;> (try with_reducible rfl)
  (try simp only [Act.put, List.setIfInBounds_toArray, List.set_cons_zero, List.set_cons_succ, List.getElem_toArray, List.getElem_cons_zero])
  refine wpAnyH_take (i := 1) (v := ?_) rfl (by kernel_rfl) (by kernel_rfl) (by kernel_rfl) (fun _ _ _ h => h) (Or.inl ⟨by kernel_rfl, ?_⟩) (by assumption) ?_
  rotate_left
  · intro w hSw; (try dsimp only at hSw); go_simp <;> (try with_reducible rfl)
  (try simp only [Act.put, List.setIfInBounds_toArray, List.set_cons_zero, List.set_cons_succ, List.getElem_toArray, List.getElem_cons_succ, List.getElem_cons_zero])
  refine wpAnyH_take (i := 2) (v := ?_) rfl (by kernel_rfl) (by kernel_rfl) (by kernel_rfl) (fun _ _ _ h => h) (Or.inl ⟨by kernel_rfl, ?_⟩) (by assumption) ?_
  rotate_left
  · intro w hSw; (try dsimp only at hSw); go_simp <;> (try with_reducible rfl)
  (try simp only [Act.put, List.setIfInBounds_toArray, List.set_cons_zero, List.set_cons_succ, List.getElem_toArray, List.getElem_cons_succ, List.getElem_cons_zero])
  refine wpAnyH_take (i := 3) (v := ?_) rfl (by kernel_rfl) (by kernel_rfl) (by kernel_rfl) (fun _ _ _ h => h) (Or.inl ⟨by kernel_rfl, ?_⟩) (by assumption) ?_
  rotate_left
  · intro w hSw; (try dsimp only at hSw); go_simp <;> (try with_reducible rfl)
  (try simp only [Act.put, List.setIfInBounds_toArray, List.set_cons_zero, List.set_cons_succ, List.getElem_toArray, List.getElem_cons_succ, List.getElem_cons_zero])
  refine wpAnyH_ready (rs := [4]) (by kernel_rfl) (by simp) ?_
  refine AllReadyH.cons rfl (fun K hK => ?_) AllReadyH.nil
  go_simp
  (go_at_call 17; have _t := tok0; clear _t tok0; ((with_reducible refine Calls.mono (rlr_may HM.out (limR_mk (IsInt.lim (by first | exact x_3.out | exact x_3.out.drew_ | exact x_3.out.alloc_ _ | exact (x_3.out.alloc_ _).drew_) BX.out) (IsInt.lim (by first | exact u_3.out | exact u_3.out.drew_ | exact u_3.out.alloc_ _ | exact (u_3.out.alloc_ _).drew_) BU.out)) (by omega)) ?_)); rintro e w4 ⟨rfl, hb⟩; have hB := (show Below w3.heap.size w3 w4 from by first | exact hb | exact bundrew hb | exact bun hb | exact bundrew (bun hb) | exact bun (bundrew hb)); have x_4 := Lib.hid (x_3.out.below hB); have y_4 := Lib.hid (y_3.out.below hB); have u_4 := Lib.hid (u_3.out.below hB); have Kr_4 := Lib.hid (Kr_3.out.below hB); have Kn_4 := Lib.hid (Kn_3.out.below hB); have Kd_4 := Lib.hid (Kd_3.out.below hB); have Ka_4 := Lib.hid (Ka_3.out.below hB); have HB_4 := Lib.hid (below_trans HB_3.out hB); have hs_4 : w.heap.size ≤ w4.heap.size := HB_4.out.size; have hz_4 : w3.heap.size + 0 ≤ w4.heap.size := (by have h := hb.size; (try simp at h); omega); clear hB hb x_3 y_3 u_3 Kr_3 Kn_3 Kd_3 Ka_3 HB_3 p30 p31 p32 p33 l3; obtain ⟨p40, p41, p42, p43, l4⟩ := Ka_4.out.use4; obtain ⟨p50, p51, p52, p53, l5⟩ := Kr_4.out.use4; obtain ⟨r50, r51, r52, r53⟩ := Kr_4.out.into4)
  refine hK.out _ _ ?_ (fun hHeld => ?_)
  · (try dsimp only); (first | (refine ⟨?_, ?_, ?_, ?_⟩ <;> (first | with_reducible assumption | ((with_reducible refine Eq.trans (cell_drew _ _) ?_); with_reducible assumption) | ((rw [cell_far4 _ _ _ _ _ _ _ _ (by omega)]); with_reducible assumption) | ((repeat rw [cell_far2 _ _ _ _ _ _ (by omega)]); with_reducible assumption) | go_keep)) | trivial | go_keep)
  clear hK K
  (try simp only [Act.put, List.setIfInBounds_toArray, List.set_cons_zero, List.set_cons_succ, List.getElem_toArray, List.getElem_cons_succ, List.getElem_cons_zero])
  refine wpAnyH_take (i := 5) (v := ?_) rfl (by kernel_rfl) (by kernel_rfl) (by kernel_rfl) (fun _ _ _ h => h) (Or.inl ⟨by kernel_rfl, ?_⟩) (by assumption) ?_
  rotate_left
  · intro w hSw; (try dsimp only at hSw); go_simp <;> (try with_reducible rfl)
  (try simp only [Act.put, List.setIfInBounds_toArray, List.set_cons_zero, List.set_cons_succ, List.getElem_toArray, List.getElem_cons_succ, List.getElem_cons_zero])
  refine wpAnyH_take (i := 6) (v := ?_) rfl (by kernel_rfl) (by kernel_rfl) (by kernel_rfl) (fun _ _ _ h => h) (Or.inl ⟨by kernel_rfl, ?_⟩) (by assumption) ?_
  rotate_left
  · intro w hSw; (try dsimp only at hSw); go_simp <;> (try with_reducible rfl)
  (try simp only [Act.put, List.setIfInBounds_toArray, List.set_cons_zero, List.set_cons_succ, List.getElem_toArray, List.getElem_cons_succ, List.getElem_cons_zero])
  refine wpAnyH_take (i := 7) (v := ?_) rfl (by kernel_rfl) (by kernel_rfl) (by kernel_rfl) (fun _ _ _ h => h) (Or.inl ⟨by kernel_rfl, ?_⟩) (by assumption) ?_
  rotate_left
  · intro w hSw; (try dsimp only at hSw); go_simp <;> (try with_reducible rfl)
  (try simp only [Act.put, List.setIfInBounds_toArray, List.set_cons_zero, List.set_cons_succ, List.getElem_toArray, List.getElem_cons_succ, List.getElem_cons_zero])
  refine wpAnyH_take (i := 8) (v := undef) rfl (by kernel_rfl) (by kernel_rfl) (by kernel_rfl) (fun _ _ _ h => h) (Or.inr ⟨by kernel_rfl, rfl⟩) (by assumption) ?_
  (try simp only [Act.put, List.setIfInBounds_toArray, List.set_cons_zero, List.set_cons_succ, List.getElem_toArray, List.getElem_cons_succ, List.getElem_cons_zero])
  refine wpAnyH_take (i := 9) (v := undef) rfl (by kernel_rfl) (by kernel_rfl) (by kernel_rfl) (fun _ _ _ h => h) (Or.inr ⟨by kernel_rfl, rfl⟩) (by assumption) ?_
  (try simp only [Act.put, List.setIfInBounds_toArray, List.set_cons_zero, List.set_cons_succ, List.getElem_toArray, List.getElem_cons_succ, List.getElem_cons_zero])
  refine wpAnyH_take (i := 10) (v := undef) rfl (by kernel_rfl) (by kernel_rfl) (by kernel_rfl) (fun _ _ _ h => h) (Or.inr ⟨by kernel_rfl, rfl⟩) (by assumption) ?_
  (try simp only [Act.put, List.setIfInBounds_toArray, List.set_cons_zero, List.set_cons_succ, List.getElem_toArray, List.getElem_cons_succ, List.getElem_cons_zero])
  refine wpAnyH_take (i := 11) (v := undef) rfl (by kernel_rfl) (by kernel_rfl) (by kernel_rfl) (fun _ _ _ h => h) (Or.inr ⟨by kernel_rfl, rfl⟩) (by assumption) ?_
  (try simp only [Act.put, List.setIfInBounds_toArray, List.set_cons_zero, List.set_cons_succ, List.getElem_toArray, List.getElem_cons_succ, List.getElem_cons_zero])
  refine wpAnyH_take (i := 12) (v := undef) rfl (by kernel_rfl) (by kernel_rfl) (by kernel_rfl) (fun _ _ _ h => h) (Or.inr ⟨by kernel_rfl, rfl⟩) (by assumption) ?_
  (try simp only [Act.put, List.setIfInBounds_toArray, List.set_cons_zero, List.set_cons_succ, List.getElem_toArray, List.getElem_cons_succ, List.getElem_cons_zero])
  refine wpAnyH_take (i := 13) (v := ?_) rfl (by kernel_rfl) (by kernel_rfl) (by kernel_rfl) (fun _ _ _ h => h) (Or.inl ⟨by kernel_rfl, ?_⟩) (by assumption) ?_
  rotate_left
  · intro w hSw; (try dsimp only at hSw); go_simp <;> (try with_reducible rfl)
  (try simp only [Act.put, List.setIfInBounds_toArray, List.set_cons_zero, List.set_cons_succ, List.getElem_toArray, List.getElem_cons_succ, List.getElem_cons_zero])
  refine wpAnyH_done (by kernel_rfl) ?_ _
  go_wp2_with fail
  refine Calls.mono (rzero_any _) ?_
  rintro e w5 ⟨v, rfl, h, hb⟩
  obtain ⟨b5, A5, n5, c5, d5, B5, m5, k5, rfl, -, -, -, h1, h2⟩ := h.form
  have hB := hb
  have x_5 := Lib.hid (x_4.out.below hB)
  have y_5 := Lib.hid (y_4.out.below hB)
  have u_5 := Lib.hid (u_4.out.below hB)
  have Kr_5 := Lib.hid (Kr_4.out.below hB)
  have Kn_5 := Lib.hid (Kn_4.out.below hB)
  have Kd_5 := Lib.hid (Kd_4.out.below hB)
  have Ka_5 := Lib.hid (Ka_4.out.below hB)
  have z_5 := Lib.hid (h1)
  have z2_5 := Lib.hid (h2)
  have HB_5 := Lib.hid (below_trans HB_4.out hB)
  have hs_5 : w.heap.size ≤ w5.heap.size := HB_5.out.size
  have hz_5 : w4.heap.size + 0 ≤ w5.heap.size := (by have h := hb.size; (try simp at h); omega)
  clear hB hb x_4 y_4 u_4 Kr_4 Kn_4 Kd_4 Ka_4 HB_4 p40 p41 p42 p43 l4 p50 p51 p52 p53 l5 r50 r51 r52 r53
  obtain ⟨p60, p61, p62, p63, l6⟩ := Kr_5.out.use4
  obtain ⟨r60, r61, r62, r63⟩ := Kr_5.out.into4
  go_wp2
  obtain ⟨WF, hWF⟩ : ∃ W, W = ((((w5.setCell ⟨w.heap.size, 0, none⟩ (.bool b5)).setCell ⟨w.heap.size, 1, none⟩ (.slice A5 n5 c5)).setCell ⟨w.heap.size, 2, none⟩ (.bool d5)).setCell ⟨w.heap.size, 3, none⟩ (.slice B5 m5 k5)) := ⟨_, rfl⟩
  rw [← hWF]
  have kq : Blk WF (w.heap.size) 26 #[.bool b5, .slice A5 n5 c5, .bool d5, .slice B5 m5 k5] := by rw [hWF]; exact Kr_5.out.own4
  have hBF : Below w.heap.size w WF := by rw [hWF]; exact Below.set4 (HB_5.out) (by first | omega | (simp; omega) | simp)
  have f1 : IsInt WF (.agg #[.bool b5, .slice A5 n5 c5]) (0 : Rat).num := by rw [hWF]; exact z_5.out.other4 Kr_5.out nu nu nu nu
  have f2 : IsInt WF (.agg #[.bool d5, .slice B5 m5 k5]) ((0 : Rat).den : Int) := by rw [hWF]; exact z2_5.out.other4 Kr_5.out nu nu nu nu
  have HE : Hid (ReadResQ w WF (Ending.returned (.tuple #[.agg #[.bool b5, .slice A5 n5 c5, .bool d5, .slice B5 m5 k5], .slice none 0 0, .bool false])) false 0 0 g) := ⟨_, _, rfl, ⟨_, _, _, _, rfl, f1, f2⟩, byt_nil _ _, hBF⟩
  obtain ⟨e0, e1, e2, e3⟩ := kq.cells4
  clear hWF
  exact bodyPost_ret (v := .tuple #[.agg #[.bool b5, .slice A5 n5 c5, .bool d5, .slice B5 m5 k5], .slice none 0 0, .bool false]) (by simp [results, Tryz.results42, go_sem, e0, e1, e2, e3] <;> omega) rfl HE.out

set_option maxRecDepth 100000 in
set_option maxHeartbeats 4000000 in
theorem rqread_no4 (A : Option Addr) (n c : Nat) (f : Nat → Nat) (w : World) (hn : n ≤ 100000) (hb : Byt w (.slice A n c) n f) (X : Int) (m : Nat) (f1 : Nat → Nat) (h1 : intRB f n = true) (h2 : intRV f n = X) (h3 : intRM f n = m) (h4 : readG (tl f) = f1) (Y : Int) (m2 : Nat) (f2 : Nat → Nat) (h5 : intRB f1 m = true) (h6 : intRV f1 m = Y) (h7 : intRM f1 m = m2) (h8 : readG (tl f1) = f2) (h9 : decide (0 < Y) = true) (h10 : Int.gcd X Y ≠ 1) (g : Nat → Nat) :
    Calls Tryz.prog 42 #[.slice A n c] w fun e w' => ReadResQ w w' e false 0 0 g := by
  have bx := intRV_lt (f := f) (n := n) (by obtain ⟨_, _, _, _, _, h⟩ := hb; exact h)
  rw [h2] at bx
  have BX := Lib.hid bx
  clear bx
  have hm : m ≤ n := by rw [← h3]; exact intRM_le f n
  have y_0 := Lib.hid hb
  have F1 := Lib.hid h1
  have F2 := Lib.hid h2
  have F3 := Lib.hid h3
  have F4 := Lib.hid h4
  clear hb h1 h2 h3 h4
  have hm2 : m2 ≤ m := by rw [← h7]; exact intRM_le f1 m
  have F5 := Lib.hid h5
  have F6 := Lib.hid h6
  have F7 := Lib.hid h7
  have F8 := Lib.hid h8
  clear h5 h6 h7 h8
  have HM := Lib.hid h9
  obtain ⟨q, hq⟩ : ∃ q, ratOf X Y = q := ⟨_, rfl⟩
  have HC := Lib.hid (hq ▸ cop_not (of_decide_eq_true h9) h10)
  have HQ := Lib.hid hq
  clear h9 h10 hq
  go_enter Tryz.func42, Tryz.ntmps42
  go_wp2_with fail
  refine Calls.mono (rreadI_is F1.out F2.out F3.out F4.out (y_0.out.alloc_ _) (by omega)) ?_
  rintro e w1 ⟨va, vb, rfl, h, hy, hb⟩
  obtain ⟨b1, A1, n1, c1, rfl, -, -, h⟩ := h.form
  obtain ⟨S1, s1, rfl, hy⟩ := hy.form
  have bu := intRV_lt (f := f1) (n := m) hy.small
  rw [F6.out] at bu
  have BU := Lib.hid (pow_up bu hm)
  clear bu
  have BQQ := Lib.hid (show BQ n q from HQ.out ▸ ratof_bq BX.out BU.out F1.out)
  have hB := bun (hb)
  have Kr_1 := Lib.hid (show Blk w1 (w.heap.size) 26 #[.bool false, .slice none 0 0, .bool false, .slice none 0 0] from (Blk.new _ _ (by simp) _ _).below hb)
  have y_1 := Lib.hid (hy)
  have x_1 := Lib.hid (h)
  have HB_1 := Lib.hid (hB)
  have hs_1 : w.heap.size ≤ w1.heap.size := HB_1.out.size
  have hz_1 : w.heap.size + 1 ≤ w1.heap.size := (by have h := hb.size; (try simp at h); omega)
  clear hB hb y_0
  go_wp2_with fail
  refine Calls.mono (rreadI_is F5.out F6.out F7.out F8.out (y_1.out.alloc_ _) (by omega)) ?_
  rintro e w2 ⟨va, vb, rfl, h, hy, hb⟩
  obtain ⟨b2, A2, n2, c2, rfl, -, -, h⟩ := h.form
  obtain ⟨S2, s2, rfl, hy⟩ := hy.form
  have hB := bun (hb)
  have x_2 := Lib.hid (x_1.out.below hB)
  have Kr_2 := Lib.hid (Kr_1.out.below hB)
  have Kn_2 := Lib.hid (show Blk w2 (w1.heap.size) 24 #[.bool b1, .slice A1 n1 c1] from (Blk.new _ _ (by simp) _ _).below hb)
  have y_2 := Lib.hid (hy)
  have u_2 := Lib.hid (h)
  have HB_2 := Lib.hid (below_trans HB_1.out hB)
  have hs_2 : w.heap.size ≤ w2.heap.size := HB_2.out.size
  have hz_2 : w1.heap.size + 1 ≤ w2.heap.size := (by have h := hb.size; (try simp at h); omega)
  clear hB hb y_1 x_1 Kr_1 HB_1
  obtain ⟨p10, p11, l1⟩ := Kn_2.out.use2
  obtain ⟨p20, p21, p22, p23, l2⟩ := Kr_2.out.use4
  obtain ⟨r20, r21, r22, r23⟩ := Kr_2.out.into4
  go_wp2
  generalize hW : ((w2.alloc (.cells #[.bool b2, .slice A2 n2 c2] 24)).alloc (.cells #[.bool b1, .slice A1 n1 c1, .bool b2, .slice A2 n2 c2] 26)) = w3
  have x_3 := Lib.hid (hW ▸ ((x_2.out.alloc_ _).alloc_ _))
  have y_3 := Lib.hid (hW ▸ ((y_2.out.alloc_ _).alloc_ _))
  have u_3 := Lib.hid (hW ▸ ((u_2.out.alloc_ _).alloc_ _))
  have Kr_3 := Lib.hid (show Blk w3 (w.heap.size) 26 #[.bool false, .slice none 0 0, .bool false, .slice none 0 0] from by rw [← hW]; exact ((Kr_2.out.alloc_ _).alloc_ _))
  have Kn_3 := Lib.hid (show Blk w3 (w1.heap.size) 24 #[.bool b1, .slice A1 n1 c1] from by rw [← hW]; exact ((Kn_2.out.alloc_ _).alloc_ _))
  have Kd_3 := Lib.hid (show Blk w3 (w2.heap.size) 24 #[.bool b2, .slice A2 n2 c2] from by rw [← hW]; exact (Blk.new _ _ (by simp) _ _).alloc_ _)
  have Ka_3 := Lib.hid (show Blk w3 (w2.heap.size + 1) 26 #[.bool b1, .slice A1 n1 c1, .bool b2, .slice A2 n2 c2] from by rw [← hW]; exact Blk.new _ _ (by simp) _ _)
  have HB_3 := Lib.hid (show Below w.heap.size w w3 from by rw [← hW]; exact halloc (halloc (HB_2.out)))
  have hs_3 : w.heap.size ≤ w3.heap.size := HB_3.out.size
  have hz_3 : w2.heap.size + 2 ≤ w3.heap.size := by rw [← hW]; simp
  clear hW x_2 y_2 u_2 Kr_2 Kn_2 HB_2 p10 p11 l1 p20 p21 p22 p23 l2 r20 r21 r22 r23
  obtain ⟨p30, p31, p32, p33, l3⟩ := Ka_3.out.use4
  have tok0 : True := trivial
  have tok1 : True := trivial
  have tok2 : True := trivial
  go_region_held3 (fun w' => w'.cell? ⟨w2.heap.size + 1, 0, none⟩ = some (.bool b1) ∧ w'.cell? ⟨w2.heap.size + 1, 1, none⟩ = some (.slice A1 n1 c1) ∧ w'.cell? ⟨w2.heap.size + 1, 2, none⟩ = some (.bool b2) ∧ w'.cell? ⟨w2.heap.size + 1, 3, none⟩ = some (.slice A2 n2 c2)) (first | (refine ⟨?_, ?_, ?_, ?_⟩ <;> (first | with_reducible assumption | ((with_reducible refine Eq.trans (cell_drew _ _) ?_); with_reducible assumption) | ((rw [cell_far4 _ _ _ _ _ _ _ _ (by omega)]); with_reducible assumption) | ((repeat rw [cell_far2 _ _ _ _ _ _ (by omega)]); with_reducible assumption) | go_keep)) | trivial | go_keep)
    (first
      | (go_at_call 17; have _t := tok0; clear _t tok0; ((with_reducible refine Calls.mono (rlr_may HM.out (limR_mk (IsInt.lim (by first | exact x_3.out | exact x_3.out.drew_ | exact x_3.out.alloc_ _ | exact (x_3.out.alloc_ _).drew_) BX.out) (IsInt.lim (by first | exact u_3.out | exact u_3.out.drew_ | exact u_3.out.alloc_ _ | exact (u_3.out.alloc_ _).drew_) BU.out)) (by omega)) ?_)); rintro e w4 ⟨rfl, hb⟩; have hB := (show Below w3.heap.size w3 w4 from by first | exact hb | exact bundrew hb | exact bun hb | exact bundrew (bun hb) | exact bun (bundrew hb)); have x_4 := Lib.hid (x_3.out.below hB); have y_4 := Lib.hid (y_3.out.below hB); have u_4 := Lib.hid (u_3.out.below hB); have Kr_4 := Lib.hid (Kr_3.out.below hB); have Kn_4 := Lib.hid (Kn_3.out.below hB); have Kd_4 := Lib.hid (Kd_3.out.below hB); have Ka_4 := Lib.hid (Ka_3.out.below hB); have HB_4 := Lib.hid (below_trans HB_3.out hB); have hs_4 : w.heap.size ≤ w4.heap.size := HB_4.out.size; have hz_4 : w3.heap.size + 0 ≤ w4.heap.size := (by have h := hb.size; (try simp at h); omega); clear hB hb x_3 y_3 u_3 Kr_3 Kn_3 Kd_3 Ka_3 HB_3 p30 p31 p32 p33 l3; obtain ⟨p40, p41, p42, p43, l4⟩ := Ka_4.out.use4)
      | (go_at_call 20; have _t := tok1; clear _t tok1; ((with_reducible refine Calls.mono (r_plain (lq HQ.out.symm (limR_mk (IsInt.lim (by first | exact x_4.out | exact x_4.out.drew_ | exact x_4.out.alloc_ _ | exact (x_4.out.alloc_ _).drew_) BX.out) (IsInt.lim (by first | exact u_4.out | exact u_4.out.drew_ | exact u_4.out.alloc_ _ | exact (u_4.out.alloc_ _).drew_) BU.out))) (by omega)) ?_)); rintro e w5 ⟨v, rfl, h, hb⟩; obtain ⟨b5, A5, n5, c5, d5, B5, m5, k5, rfl, -, -, -, h1, h2⟩ := h.form; have hB := (show Below w4.heap.size w4 w5 from by first | exact hb | exact bundrew hb | exact bun hb | exact bundrew (bun hb) | exact bun (bundrew hb)); have x_5 := Lib.hid (x_4.out.below hB); have y_5 := Lib.hid (y_4.out.below hB); have u_5 := Lib.hid (u_4.out.below hB); have Kr_5 := Lib.hid (Kr_4.out.below hB); have Kn_5 := Lib.hid (Kn_4.out.below hB); have Kd_5 := Lib.hid (Kd_4.out.below hB); have Ka_5 := Lib.hid (Ka_4.out.below hB); have pq_5 := Lib.hid (h); have HB_5 := Lib.hid (below_trans HB_4.out hB); have hs_5 : w.heap.size ≤ w5.heap.size := HB_5.out.size; have hz_5 : w4.heap.size + 0 ≤ w5.heap.size := (by have h := hb.size; (try simp at h); omega); clear hB hb x_4 y_4 u_4 Kr_4 Kn_4 Kd_4 Ka_4 HB_4 p40 p41 p42 p43 l4; obtain ⟨p50, p51, p52, p53, l5⟩ := Ka_5.out.use4)
      | (go_at_call 18; have _t := tok2; clear _t tok2; ((with_reducible refine Calls.mono (differ_plain (by first | exact pq_5.out | exact pq_5.out.drew_ | exact pq_5.out.alloc_ _ | exact (pq_5.out.alloc_ _).drew_) (by first | exact x_5.out | exact x_5.out.drew_ | exact x_5.out.alloc_ _ | exact (x_5.out.alloc_ _).drew_) (by first | exact u_5.out | exact u_5.out.drew_ | exact u_5.out.alloc_ _ | exact (u_5.out.alloc_ _).drew_) BX.out BU.out BQQ.out (by omega) HC.out) ?_)); rintro e w6 ⟨rfl, hb⟩; have hB := (show Below w5.heap.size w5 w6 from by first | exact hb | exact bundrew hb | exact bun hb | exact bundrew (bun hb) | exact bun (bundrew hb)); have x_6 := Lib.hid (x_5.out.below hB); have y_6 := Lib.hid (y_5.out.below hB); have u_6 := Lib.hid (u_5.out.below hB); have Kr_6 := Lib.hid (Kr_5.out.below hB); have Kn_6 := Lib.hid (Kn_5.out.below hB); have Kd_6 := Lib.hid (Kd_5.out.below hB); have Ka_6 := Lib.hid (Ka_5.out.below hB); have HB_6 := Lib.hid (below_trans HB_5.out hB); have hs_6 : w.heap.size ≤ w6.heap.size := HB_6.out.size; have hz_6 : w5.heap.size + 0 ≤ w6.heap.size := (by have h := hb.size; (try simp at h); omega); clear hB hb x_5 y_5 u_5 pq_5 Kr_5 Kn_5 Kd_5 Ka_5 HB_5 p50 p51 p52 p53 l5; obtain ⟨p60, p61, p62, p63, l6⟩ := Ka_6.out.use4; obtain ⟨p70, p71, p72, p73, l7⟩ := Kr_6.out.use4; obtain ⟨r70, r71, r72, r73⟩ := Kr_6.out.into4))
  go_wp2_with fail
  refine Calls.mono (rzero_any _) ?_
  rintro e w7 ⟨v, rfl, h, hb⟩
  obtain ⟨b7, A7, n7, c7, d7, B7, m7, k7, rfl, -, -, -, h1, h2⟩ := h.form
  have hB := hb
  have x_7 := Lib.hid (x_6.out.below hB)
  have y_7 := Lib.hid (y_6.out.below hB)
  have u_7 := Lib.hid (u_6.out.below hB)
  have Kr_7 := Lib.hid (Kr_6.out.below hB)
  have Kn_7 := Lib.hid (Kn_6.out.below hB)
  have Kd_7 := Lib.hid (Kd_6.out.below hB)
  have Ka_7 := Lib.hid (Ka_6.out.below hB)
  have z_7 := Lib.hid (h1)
  have z2_7 := Lib.hid (h2)
  have HB_7 := Lib.hid (below_trans HB_6.out hB)
  have hs_7 : w.heap.size ≤ w7.heap.size := HB_7.out.size
  have hz_7 : w6.heap.size + 0 ≤ w7.heap.size := (by have h := hb.size; (try simp at h); omega)
  clear hB hb x_6 y_6 u_6 Kr_6 Kn_6 Kd_6 Ka_6 HB_6 p60 p61 p62 p63 l6 p70 p71 p72 p73 l7 r70 r71 r72 r73
  obtain ⟨p80, p81, p82, p83, l8⟩ := Kr_7.out.use4
  obtain ⟨r80, r81, r82, r83⟩ := Kr_7.out.into4
  go_wp2
  obtain ⟨WF, hWF⟩ : ∃ W, W = ((((w7.setCell ⟨w.heap.size, 0, none⟩ (.bool b7)).setCell ⟨w.heap.size, 1, none⟩ (.slice A7 n7 c7)).setCell ⟨w.heap.size, 2, none⟩ (.bool d7)).setCell ⟨w.heap.size, 3, none⟩ (.slice B7 m7 k7)) := ⟨_, rfl⟩
  rw [← hWF]
  have kq : Blk WF (w.heap.size) 26 #[.bool b7, .slice A7 n7 c7, .bool d7, .slice B7 m7 k7] := by rw [hWF]; exact Kr_7.out.own4
  have hBF : Below w.heap.size w WF := by rw [hWF]; exact Below.set4 (HB_7.out) (by first | omega | (simp; omega) | simp)
  have f1 : IsInt WF (.agg #[.bool b7, .slice A7 n7 c7]) (0 : Rat).num := by rw [hWF]; exact z_7.out.other4 Kr_7.out nu nu nu nu
  have f2 : IsInt WF (.agg #[.bool d7, .slice B7 m7 k7]) ((0 : Rat).den : Int) := by rw [hWF]; exact z2_7.out.other4 Kr_7.out nu nu nu nu
  have HE : Hid (ReadResQ w WF (Ending.returned (.tuple #[.agg #[.bool b7, .slice A7 n7 c7, .bool d7, .slice B7 m7 k7], .slice none 0 0, .bool false])) false 0 0 g) := ⟨_, _, rfl, ⟨_, _, _, _, rfl, f1, f2⟩, byt_nil _ _, hBF⟩
  obtain ⟨e0, e1, e2, e3⟩ := kq.cells4
  clear hWF
  exact bodyPost_ret (v := .tuple #[.agg #[.bool b7, .slice A7 n7 c7, .bool d7, .slice B7 m7 k7], .slice none 0 0, .bool false]) (by simp [results, Tryz.results42, go_sem, e0, e1, e2, e3] <;> omega) rfl HE.out

set_option maxRecDepth 100000 in
set_option maxHeartbeats 4000000 in
theorem rqread_yes (A : Option Addr) (n c : Nat) (f : Nat → Nat) (w : World) (hn : n ≤ 100000) (hb : Byt w (.slice A n c) n f) (X : Int) (m : Nat) (f1 : Nat → Nat) (h1 : intRB f n = true) (h2 : intRV f n = X) (h3 : intRM f n = m) (h4 : readG (tl f) = f1) (Y : Int) (m2 : Nat) (f2 : Nat → Nat) (h5 : intRB f1 m = true) (h6 : intRV f1 m = Y) (h7 : intRM f1 m = m2) (h8 : readG (tl f1) = f2) (h9 : decide (0 < Y) = true) (h10 : Int.gcd X Y = 1) (q : Rat) (hq : ratOf X Y = q) :
    Calls Tryz.prog 42 #[.slice A n c] w fun e w' => ReadResQ w w' e true q m2 f2 := by
  have bx := intRV_lt (f := f) (n := n) (by obtain ⟨_, _, _, _, _, h⟩ := hb; exact h)
  rw [h2] at bx
  have BX := Lib.hid bx
  clear bx
  have hm : m ≤ n := by rw [← h3]; exact intRM_le f n
  have y_0 := Lib.hid hb
  have F1 := Lib.hid h1
  have F2 := Lib.hid h2
  have F3 := Lib.hid h3
  have F4 := Lib.hid h4
  clear hb h1 h2 h3 h4
  have hm2 : m2 ≤ m := by rw [← h7]; exact intRM_le f1 m
  have F5 := Lib.hid h5
  have F6 := Lib.hid h6
  have F7 := Lib.hid h7
  have F8 := Lib.hid h8
  clear h5 h6 h7 h8
  have HM := Lib.hid h9
  have HC := Lib.hid (hq ▸ cop_yes (of_decide_eq_true h9) h10)
  have HQ := Lib.hid hq
  clear h9 h10 hq
  go_enter Tryz.func42, Tryz.ntmps42
  go_wp2_with fail
  refine Calls.mono (rreadI_is F1.out F2.out F3.out F4.out (y_0.out.alloc_ _) (by omega)) ?_
  rintro e w1 ⟨va, vb, rfl, h, hy, hb⟩
  obtain ⟨b1, A1, n1, c1, rfl, -, -, h⟩ := h.form
  obtain ⟨S1, s1, rfl, hy⟩ := hy.form
  have bu := intRV_lt (f := f1) (n := m) hy.small
  rw [F6.out] at bu
  have BU := Lib.hid (pow_up bu hm)
  clear bu
  have BQQ := Lib.hid (show BQ n q from HQ.out ▸ ratof_bq BX.out BU.out F1.out)
  have hB := bun (hb)
  have Kr_1 := Lib.hid (show Blk w1 (w.heap.size) 26 #[.bool false, .slice none 0 0, .bool false, .slice none 0 0] from (Blk.new _ _ (by simp) _ _).below hb)
  have y_1 := Lib.hid (hy)
  have x_1 := Lib.hid (h)
  have HB_1 := Lib.hid (hB)
  have hs_1 : w.heap.size ≤ w1.heap.size := HB_1.out.size
  have hz_1 : w.heap.size + 1 ≤ w1.heap.size := (by have h := hb.size; (try simp at h); omega)
  clear hB hb y_0
  go_wp2_with fail
  refine Calls.mono (rreadI_is F5.out F6.out F7.out F8.out (y_1.out.alloc_ _) (by omega)) ?_
  rintro e w2 ⟨va, vb, rfl, h, hy, hb⟩
  obtain ⟨b2, A2, n2, c2, rfl, -, -, h⟩ := h.form
  obtain ⟨S2, s2, rfl, hy⟩ := hy.form
  have hB := bun (hb)
  have x_2 := Lib.hid (x_1.out.below hB)
  have Kr_2 := Lib.hid (Kr_1.out.below hB)
  have Kn_2 := Lib.hid (show Blk w2 (w1.heap.size) 24 #[.bool b1, .slice A1 n1 c1] from (Blk.new _ _ (by simp) _ _).below hb)
  have y_2 := Lib.hid (hy)
  have u_2 := Lib.hid (h)
  have HB_2 := Lib.hid (below_trans HB_1.out hB)
  have hs_2 : w.heap.size ≤ w2.heap.size := HB_2.out.size
  have hz_2 : w1.heap.size + 1 ≤ w2.heap.size := (by have h := hb.size; (try simp at h); omega)
  clear hB hb y_1 x_1 Kr_1 HB_1
  obtain ⟨p10, p11, l1⟩ := Kn_2.out.use2
  obtain ⟨p20, p21, p22, p23, l2⟩ := Kr_2.out.use4
  obtain ⟨r20, r21, r22, r23⟩ := Kr_2.out.into4
  go_wp2
  generalize hW : ((w2.alloc (.cells #[.bool b2, .slice A2 n2 c2] 24)).alloc (.cells #[.bool b1, .slice A1 n1 c1, .bool b2, .slice A2 n2 c2] 26)) = w3
  have x_3 := Lib.hid (hW ▸ ((x_2.out.alloc_ _).alloc_ _))
  have y_3 := Lib.hid (hW ▸ ((y_2.out.alloc_ _).alloc_ _))
  have u_3 := Lib.hid (hW ▸ ((u_2.out.alloc_ _).alloc_ _))
  have Kr_3 := Lib.hid (show Blk w3 (w.heap.size) 26 #[.bool false, .slice none 0 0, .bool false, .slice none 0 0] from by rw [← hW]; exact ((Kr_2.out.alloc_ _).alloc_ _))
  have Kn_3 := Lib.hid (show Blk w3 (w1.heap.size) 24 #[.bool b1, .slice A1 n1 c1] from by rw [← hW]; exact ((Kn_2.out.alloc_ _).alloc_ _))
  have Kd_3 := Lib.hid (show Blk w3 (w2.heap.size) 24 #[.bool b2, .slice A2 n2 c2] from by rw [← hW]; exact (Blk.new _ _ (by simp) _ _).alloc_ _)
  have Ka_3 := Lib.hid (show Blk w3 (w2.heap.size + 1) 26 #[.bool b1, .slice A1 n1 c1, .bool b2, .slice A2 n2 c2] from by rw [← hW]; exact Blk.new _ _ (by simp) _ _)
  have HB_3 := Lib.hid (show Below w.heap.size w w3 from by rw [← hW]; exact halloc (halloc (HB_2.out)))
  have hs_3 : w.heap.size ≤ w3.heap.size := HB_3.out.size
  have hz_3 : w2.heap.size + 2 ≤ w3.heap.size := by rw [← hW]; simp
  clear hW x_2 y_2 u_2 Kr_2 Kn_2 HB_2 p10 p11 l1 p20 p21 p22 p23 l2 r20 r21 r22 r23
  obtain ⟨p30, p31, p32, p33, l3⟩ := Ka_3.out.use4
  have tok0 : True := trivial
  have tok1 : True := trivial
  have tok2 : True := trivial
  go_region_held3 (fun w' => w'.cell? ⟨w2.heap.size + 1, 0, none⟩ = some (.bool b1) ∧ w'.cell? ⟨w2.heap.size + 1, 1, none⟩ = some (.slice A1 n1 c1) ∧ w'.cell? ⟨w2.heap.size + 1, 2, none⟩ = some (.bool b2) ∧ w'.cell? ⟨w2.heap.size + 1, 3, none⟩ = some (.slice A2 n2 c2)) (first | (refine ⟨?_, ?_, ?_, ?_⟩ <;> (first | with_reducible assumption | ((with_reducible refine Eq.trans (cell_drew _ _) ?_); with_reducible assumption) | ((rw [cell_far4 _ _ _ _ _ _ _ _ (by omega)]); with_reducible assumption) | ((repeat rw [cell_far2 _ _ _ _ _ _ (by omega)]); with_reducible assumption) | go_keep)) | trivial | go_keep)
    (first
      | (go_at_call 17; have _t := tok0; clear _t tok0; ((with_reducible refine Calls.mono (rlr_may HM.out (limR_mk (IsInt.lim (by first | exact x_3.out | exact x_3.out.drew_ | exact x_3.out.alloc_ _ | exact (x_3.out.alloc_ _).drew_) BX.out) (IsInt.lim (by first | exact u_3.out | exact u_3.out.drew_ | exact u_3.out.alloc_ _ | exact (u_3.out.alloc_ _).drew_) BU.out)) (by omega)) ?_)); rintro e w4 ⟨rfl, hb⟩; have hB := (show Below w3.heap.size w3 w4 from by first | exact hb | exact bundrew hb | exact bun hb | exact bundrew (bun hb) | exact bun (bundrew hb)); have x_4 := Lib.hid (x_3.out.below hB); have y_4 := Lib.hid (y_3.out.below hB); have u_4 := Lib.hid (u_3.out.below hB); have Kr_4 := Lib.hid (Kr_3.out.below hB); have Kn_4 := Lib.hid (Kn_3.out.below hB); have Kd_4 := Lib.hid (Kd_3.out.below hB); have Ka_4 := Lib.hid (Ka_3.out.below hB); have HB_4 := Lib.hid (below_trans HB_3.out hB); have hs_4 : w.heap.size ≤ w4.heap.size := HB_4.out.size; have hz_4 : w3.heap.size + 0 ≤ w4.heap.size := (by have h := hb.size; (try simp at h); omega); clear hB hb x_3 y_3 u_3 Kr_3 Kn_3 Kd_3 Ka_3 HB_3 p30 p31 p32 p33 l3; obtain ⟨p40, p41, p42, p43, l4⟩ := Ka_4.out.use4)
      | (go_at_call 20; have _t := tok1; clear _t tok1; ((with_reducible refine Calls.mono (r_plain (lq HQ.out.symm (limR_mk (IsInt.lim (by first | exact x_4.out | exact x_4.out.drew_ | exact x_4.out.alloc_ _ | exact (x_4.out.alloc_ _).drew_) BX.out) (IsInt.lim (by first | exact u_4.out | exact u_4.out.drew_ | exact u_4.out.alloc_ _ | exact (u_4.out.alloc_ _).drew_) BU.out))) (by omega)) ?_)); rintro e w5 ⟨v, rfl, h, hb⟩; obtain ⟨b5, A5, n5, c5, d5, B5, m5, k5, rfl, -, -, -, h1, h2⟩ := h.form; have hB := (show Below w4.heap.size w4 w5 from by first | exact hb | exact bundrew hb | exact bun hb | exact bundrew (bun hb) | exact bun (bundrew hb)); have x_5 := Lib.hid (x_4.out.below hB); have y_5 := Lib.hid (y_4.out.below hB); have u_5 := Lib.hid (u_4.out.below hB); have Kr_5 := Lib.hid (Kr_4.out.below hB); have Kn_5 := Lib.hid (Kn_4.out.below hB); have Kd_5 := Lib.hid (Kd_4.out.below hB); have Ka_5 := Lib.hid (Ka_4.out.below hB); have pq_5 := Lib.hid (h); have HB_5 := Lib.hid (below_trans HB_4.out hB); have hs_5 : w.heap.size ≤ w5.heap.size := HB_5.out.size; have hz_5 : w4.heap.size + 0 ≤ w5.heap.size := (by have h := hb.size; (try simp at h); omega); clear hB hb x_4 y_4 u_4 Kr_4 Kn_4 Kd_4 Ka_4 HB_4 p40 p41 p42 p43 l4; obtain ⟨p50, p51, p52, p53, l5⟩ := Ka_5.out.use4)
      | (go_at_call 18; have _t := tok2; clear _t tok2; ((with_reducible refine Calls.mono (rat_same (by first | exact pq_5.out | exact pq_5.out.drew_ | exact pq_5.out.alloc_ _ | exact (pq_5.out.alloc_ _).drew_) (irat_of (by first | exact x_5.out | exact x_5.out.drew_ | exact x_5.out.alloc_ _ | exact (x_5.out.alloc_ _).drew_) (by first | exact u_5.out | exact u_5.out.drew_ | exact u_5.out.alloc_ _ | exact (u_5.out.alloc_ _).drew_) HC.out) BQQ.out (by omega)) ?_)); rintro e w6 ⟨rfl, hb⟩; have hB := (show Below w5.heap.size w5 w6 from by first | exact hb | exact bundrew hb | exact bun hb | exact bundrew (bun hb) | exact bun (bundrew hb)); have x_6 := Lib.hid (x_5.out.below hB); have y_6 := Lib.hid (y_5.out.below hB); have u_6 := Lib.hid (u_5.out.below hB); have Kr_6 := Lib.hid (Kr_5.out.below hB); have Kn_6 := Lib.hid (Kn_5.out.below hB); have Kd_6 := Lib.hid (Kd_5.out.below hB); have Ka_6 := Lib.hid (Ka_5.out.below hB); have HB_6 := Lib.hid (below_trans HB_5.out hB); have hs_6 : w.heap.size ≤ w6.heap.size := HB_6.out.size; have hz_6 : w5.heap.size + 0 ≤ w6.heap.size := (by have h := hb.size; (try simp at h); omega); clear hB hb x_5 y_5 u_5 pq_5 Kr_5 Kn_5 Kd_5 Ka_5 HB_5 p50 p51 p52 p53 l5; obtain ⟨p60, p61, p62, p63, l6⟩ := Ka_6.out.use4; obtain ⟨p70, p71, p72, p73, l7⟩ := Kr_6.out.use4; obtain ⟨r70, r71, r72, r73⟩ := Kr_6.out.into4))
  go_wp2
  obtain ⟨WF, hWF⟩ : ∃ W, W = ((((w6.setCell ⟨w.heap.size, 0, none⟩ (.bool b1)).setCell ⟨w.heap.size, 1, none⟩ (.slice A1 n1 c1)).setCell ⟨w.heap.size, 2, none⟩ (.bool b2)).setCell ⟨w.heap.size, 3, none⟩ (.slice A2 n2 c2)) := ⟨_, rfl⟩
  rw [← hWF]
  have kq : Blk WF (w.heap.size) 26 #[.bool b1, .slice A1 n1 c1, .bool b2, .slice A2 n2 c2] := by rw [hWF]; exact Kr_6.out.own4
  have hBF : Below w.heap.size w WF := by rw [hWF]; exact Below.set4 (HB_6.out) (by first | omega | (simp; omega) | simp)
  have u1 : IsInt WF (.agg #[.bool b1, .slice A1 n1 c1]) X := by rw [hWF]; exact x_6.out.other4 Kr_6.out nu nu nu nu
  have u2 : IsInt WF (.agg #[.bool b2, .slice A2 n2 c2]) Y := by rw [hWF]; exact u_6.out.other4 Kr_6.out nu nu nu nu
  have u3 : Byt WF (.slice S2 m2 s2) m2 f2 := by rw [hWF]; exact y_6.out.other4 Kr_6.out nu nu nu nu
  have HE : Hid (ReadResQ w WF (Ending.returned (.tuple #[.agg #[.bool b1, .slice A1 n1 c1, .bool b2, .slice A2 n2 c2], .slice S2 m2 s2, .bool true])) true q m2 f2) := ⟨_, _, rfl, ⟨_, _, _, _, rfl, by rw [HC.out.1]; exact u1, by rw [HC.out.2]; exact u2⟩, u3, hBF⟩
  obtain ⟨e0, e1, e2, e3⟩ := kq.cells4
  clear hWF
  exact bodyPost_ret (v := .tuple #[.agg #[.bool b1, .slice A1 n1 c1, .bool b2, .slice A2 n2 c2], .slice S2 m2 s2, .bool true]) (by simp [results, Tryz.results42, go_sem, e0, e1, e2, e3] <;> omega) rfl HE.out

theorem rq_read {w : World} {v : Value} {n : Nat} {f : Nat → Nat} (h : Byt w v n f) (hn : n ≤ 100000) : Calls Tryz.prog 42 #[v] w fun e w' => ReadResQ w w' e (qOk f n) (qRV f n) (qRM f n) (qRG f) := by
  obtain ⟨A, c, rfl, h⟩ := h.form
  cases h0 : qOk f n
  · obtain ⟨e1, e2⟩ := qRead_no h0
    rw [e1, e2]
    unfold qOk at h0
    cases h1 : intRB f n
    · exact rqread_no1 A n c f w (by omega) h _ _ _ h1 rfl rfl rfl _
    · cases h2 : intRB (readG (tl f)) (intRM f n)
      · exact rqread_no2 A n c f w (by omega) h _ _ _ h1 rfl rfl rfl _ _ _ h2 rfl rfl rfl _
      · rw [h1, h2, Bool.true_and, Bool.true_and] at h0
        cases h3 : decide (0 < intRV (readG (tl f)) (intRM f n))
        · exact rqread_no3 A n c f w (by omega) h _ _ _ h1 rfl rfl rfl _ _ _ h2 rfl rfl rfl h3 _
        · rw [h3, Bool.true_and, decide_eq_false_iff_not] at h0
          exact rqread_no4 A n c f w (by omega) h _ _ _ h1 rfl rfl rfl _ _ _ h2 rfl rfl rfl h3 h0 _
  · have e1 : qRV f n = ratOf (intRV f n) (intRV (readG (tl f)) (intRM f n)) := by
      unfold qRV
      rw [if_pos h0]
      unfold qOk at h0
      rw [Bool.and_eq_true, Bool.and_eq_true, Bool.and_eq_true, decide_eq_true_eq] at h0
      unfold ratOf
      rw [if_pos h0.2.2.1]
    have e2 : qRM f n = intRM (readG (tl f)) (intRM f n) := by unfold qRM; rw [if_pos h0]
    rw [e1, e2]
    unfold qOk at h0
    rw [Bool.and_eq_true, Bool.and_eq_true, Bool.and_eq_true, decide_eq_true_eq (p := _ = _)] at h0
    obtain ⟨h1, h2, h3, h4⟩ := h0
    exact rqread_yes A n c f w (by omega) h _ _ _ h1 rfl rfl rfl _ _ _ h2 rfl rfl rfl h3 h4 _ rfl
end Go.Proofs.YtglcififcldchaaGreatDoor
