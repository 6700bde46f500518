/- ratio.Read. -/
import Derived.Test.YtglcififcldchaaGreatDoorPRca
import Derived.Test.YtglcififcldchaaGreatDoorPRc
import Derived.Deep.DeepCutAuto
namespace Go.Proofs.YtglcififcldchaaGreatDoor
open Go.RowKit
attribute [local go_sem ↓] Go.wp_at_zero Go.wp_at_succ
set_option linter.unusedVariables false

theorem Rd.one8 {w : World} {A : Option Addr} {n : Nat} {f : Nat → Nat} {g : Nat} {t : TypeId} (h : Rd .u8 w A n f) {cs : Array Value} {i : Nat} {x y : Value} (hk : Blk w g t cs) (hi : cs[i]? = some x) (hx : ∀ z, x ≠ .int .u8 z) : Rd .u8 (w.setCell ⟨g, i, none⟩ y) A n f :=
  h.apart ((hk.cell i).trans hi) hx y
theorem Byt.other4 {w : World} {v : Value} {n g : Nat} {f : Nat → Nat} {t : TypeId} {b0 b1 : Bool} {A0 A1 : Option Addr} {n0 c0 n1 c1 : Nat} {y0 y1 y2 y3 : Value} (h : Byt w v n f) (hk : Blk w g t #[.bool b0, .slice A0 n0 c0, .bool b1, .slice A1 n1 c1])
    (_ : Nu (.bool b0)) (_ : Nu (.slice A0 n0 c0)) (_ : Nu (.bool b1)) (_ : Nu (.slice A1 n1 c1)) : Byt ((((w.setCell ⟨g, 0, none⟩ y0).setCell ⟨g, 1, none⟩ y1).setCell ⟨g, 2, none⟩ y2).setCell ⟨g, 3, none⟩ y3) v n f := by
  obtain ⟨A, c, h1, h2, h3, h4⟩ := h
  exact ⟨A, c, h1, h2, (((h3.one8 hk (i := 0) rfl (fun z e => by cases e)).one8 (hk.set_ 0 y0) (i := 1) rfl (fun z e => by cases e)).one8 ((hk.set_ 0 y0).set_ 1 y1) (i := 2) rfl (fun z e => by cases e)).one8 (((hk.set_ 0 y0).set_ 1 y1).set_ 2 y2) (i := 3) rfl (fun z e => by cases e), h4⟩
theorem Byt.small {w : World} {v : Value} {n : Nat} {f : Nat → Nat} (h : Byt w v n f) : ∀ j, j < n → f j < 256 := by
  obtain ⟨_, _, _, _, _, h⟩ := h
  exact h
theorem readI_is {w : World} {v : Value} {n m : Nat} {f : Nat → Nat} {b : Bool} {X : Int} {g : Nat → Nat} (h1 : intRB f n = b) (h2 : intRV f n = X) (h3 : intRM f n = m) (h4 : readG (tl f) = g) (h : Byt w v n f) (hn : n ≤ 1000000) : Calls Tryz.prog 81 #[v] w fun e w' => ReadResI w w' e b X m g := by
  subst h1 h2 h3 h4
  exact byt_readI h hn
theorem lim_lit1 (w : World) : Lim 1 (w.alloc (.cells #[.int .u32 1] 86)) (.slice (some ⟨w.heap.size, 0, none⟩) 1 1) 1 := by
  have h : Own .u32 86 (w.alloc (.cells #[.int .u32 1] 86)) w.heap.size (.slice (some ⟨w.heap.size, 0, none⟩) 1 1) 1 (fun _ => 1) := World.ownsRow_lit w _ 1 (Nat.le_refl _) (by simp only [maxLen]; omega) rfl
  exact ⟨_, 1, 1, fun _ => 1, rfl, Nat.le_refl _, h.rd_, fun _ _ => by show 1 < 4294967296; decide, Nat.le_refl _, by simp [num]⟩

set_option maxRecDepth 100000 in
set_option maxHeartbeats 2000000 in
theorem isplain_no (b : Bool) (A : Option Addr) (n c : Nat) (b' : Bool) (A' : Option Addr) (n' c' : Nat) (w : World) (k : Nat) (X Y : Int) (hx : LimI k w (.agg #[.bool b, .slice A n c]) X) (hy : LimI k w (.agg #[.bool b', .slice A' n' c']) Y) (hk : k ≤ 400000) (hY : Y ≤ 0) :
    Calls Tryz.prog 82 #[(.agg #[.bool b, .slice A n c, .bool b', .slice A' n' c'])] w fun e w' => e = .returned (.bool false) ∧ Below w.heap.size w w' := by
  have x_0 := Lib.hid hx
  have y_0 := Lib.hid hy
  have HY := Lib.hid hY
  clear hx hy hY
  go_enter Tryz.func82, Tryz.ntmps82
  go_wp2_with fail
  refine Calls.mono (may_false _ _ _ _ _ _ _ _ _ k Y (y_0.out.alloc_ _) (by omega) HY.out) ?_
  rintro e w1 ⟨rfl, hb⟩
  have hB := bun (hb)
  have x_1 := Lib.hid (x_0.out.below hB)
  have y_1 := Lib.hid (y_0.out.below hB)
  have Ka_1 := Lib.hid (show Blk w1 (w.heap.size) 26 #[.bool b, .slice A n c, .bool b', .slice A' n' c'] from (Blk.new _ _ (by simp) _ _).below hb)
  have HB_1 := Lib.hid (hB)
  have hs_1 : w.heap.size ≤ w1.heap.size := HB_1.out.size
  have hz_1 : w.heap.size + 1 ≤ w1.heap.size := (by have h := hb.size; (try simp at h); omega)
  clear hB hb x_0 y_0
  obtain ⟨p10, p11, p12, p13, l1⟩ := Ka_1.out.use4
  go_wp2
  go_ret
  exact ⟨rfl, HB_1.out⟩

set_option maxRecDepth 100000 in
set_option maxHeartbeats 2000000 in
theorem isplain_yes (b : Bool) (A : Option Addr) (n c : Nat) (b' : Bool) (A' : Option Addr) (n' c' : Nat) (w : World) (k : Nat) (X Y : Int) (hx : LimI k w (.agg #[.bool b, .slice A n c]) X) (hy : LimI k w (.agg #[.bool b', .slice A' n' c']) Y) (hk : k ≤ 400000) (hY : 0 < Y) (G : Nat) (hG : Int.gcd X Y = G) (r : Int) (hr : cmpN G 1 = r) (hl : G < 4294967296 ^ k) :
    Calls Tryz.prog 82 #[(.agg #[.bool b, .slice A n c, .bool b', .slice A' n' c'])] w fun e w' => e = .returned (.bool (r == 0)) ∧ Below w.heap.size w w' := by
  have x_0 := Lib.hid hx
  have y_0 := Lib.hid hy
  have HY := Lib.hid hY
  have HG := Lib.hid hG
  have HR := Lib.hid hr
  have HL := Lib.hid hl
  clear hx hy hY hG hr hl
  go_enter Tryz.func82, Tryz.ntmps82
  go_wp2_with fail
  refine Calls.mono (may_true _ _ _ _ _ _ _ _ _ k Y (y_0.out.alloc_ _) (by omega) HY.out) ?_
  rintro e w1 ⟨rfl, hb⟩
  have hB := bun (hb)
  have x_1 := Lib.hid (x_0.out.below hB)
  have y_1 := Lib.hid (y_0.out.below hB)
  have Ka_1 := Lib.hid (show Blk w1 (w.heap.size) 26 #[.bool b, .slice A n c, .bool b', .slice A' n' c'] from (Blk.new _ _ (by simp) _ _).below hb)
  have HB_1 := Lib.hid (hB)
  have hs_1 : w.heap.size ≤ w1.heap.size := HB_1.out.size
  have hz_1 : w.heap.size + 1 ≤ w1.heap.size := (by have h := hb.size; (try simp at h); omega)
  clear hB hb x_0 y_0
  obtain ⟨p10, p11, p12, p13, l1⟩ := Ka_1.out.use4
  go_wp2_with fail
  refine Calls.mono (lim_gcd (LimI.mag x_1.out) (LimI.mag y_1.out) hk hk) ?_
  rintro e w2 ⟨v2, rfl, h, hb⟩
  have hB := hb
  have Ka_2 := Lib.hid (Ka_1.out.below hB)
  have q_2 := Lib.hid (show IsNat w2 v2 G from HG.out ▸ h)
  have HB_2 := Lib.hid (below_trans HB_1.out hB)
  have hs_2 : w.heap.size ≤ w2.heap.size := HB_2.out.size
  have hz_2 : w1.heap.size + 0 ≤ w2.heap.size := (by have h := hb.size; (try simp at h); omega)
  clear hB hb x_1 y_1 Ka_1 HB_1 p10 p11 p12 p13 l1
  go_wp2_with fail
  refine Calls.mono (lim_cmp_is r HR.out (IsNat.lim (k := k) (q_2.out.alloc_ _) HL.out) (lim_lit1 _) (by omega) (by omega)) ?_
  rintro e w3 ⟨rfl, hb⟩
  have hB := bun (hb)
  have Ka_3 := Lib.hid (Ka_2.out.below hB)
  have Kl_3 := Lib.hid (show Blk w3 (w2.heap.size) 86 #[.int .u32 1] from (Blk.new _ _ (by simp) _ _).below hb)
  have HB_3 := Lib.hid (below_trans HB_2.out hB)
  have hs_3 : w.heap.size ≤ w3.heap.size := HB_3.out.size
  have hz_3 : w2.heap.size + 1 ≤ w3.heap.size := (by have h := hb.size; (try simp at h); omega)
  clear hB hb q_2 Ka_2 HB_2
  go_wp2
  go_ret
  exact ⟨rfl, HB_3.out⟩

theorem isplain_is {k : Nat} {w : World} {b : Bool} {A : Option Addr} {n c : Nat} {b' : Bool} {A' : Option Addr} {n' c' : Nat} {X Y : Int} {s : Bool} (hs : (decide (0 < Y) && decide (Int.gcd X Y = 1)) = s) (hx : LimI k w (.agg #[.bool b, .slice A n c]) X) (hy : LimI k w (.agg #[.bool b', .slice A' n' c']) Y) (hk : k ≤ 400000) :
    Calls Tryz.prog 82 #[.agg #[.bool b, .slice A n c, .bool b', .slice A' n' c']] w fun e w' => e = .returned (.bool s) ∧ Below w.heap.size w w' := by
  by_cases hY : 0 < Y
  · have hl : Int.gcd X Y < 4294967296 ^ k := by
      have h1 : Int.gcd X Y ≤ Y.natAbs := Nat.le_of_dvd (by omega) (Nat.gcd_dvd_right _ _)
      exact Nat.lt_of_le_of_lt h1 hy.lt
    have h := isplain_yes b A n c b' A' n' c' w k X Y hx hy hk hY _ rfl _ rfl hl
    rw [decide_eq_true hY, Bool.true_and] at hs
    rw [← hs, show decide (Int.gcd X Y = 1) = (cmpN (Int.gcd X Y) 1 == 0) from ?_]
    · exact h
    · generalize Int.gcd X Y = G
      unfold cmpN
      by_cases h1 : G = 1
      · subst h1; rfl
      · rw [decide_eq_false h1]
        symm
        rw [beq_eq_false_iff_ne]
        split <;> (try split) <;> omega
  · rw [decide_eq_false hY, Bool.false_and] at hs
    subst hs
    exact isplain_no b A n c b' A' n' c' w k X Y hx hy hk (by omega)

set_option maxRecDepth 100000 in
set_option maxHeartbeats 2000000 in
theorem qread_no1 (A : Option Addr) (n c : Nat) (f : Nat → Nat) (w : World) (hn : n ≤ 200000) (hb : Byt w (.slice A n c) n f) (X : Int) (m : Nat) (f1 : Nat → Nat) (h1 : intRB f n = false) (h2 : intRV f n = X) (h3 : intRM f n = m) (h4 : readG (tl f) = f1) (g : Nat → Nat) :
    Calls Tryz.prog 41 #[.slice A n c] w fun e w' => ReadResQ w w' e false 0 0 g := by
  have hm : m ≤ n := by rw [← h3]; exact intRM_le f n
  have y_0 := Lib.hid hb
  have F1 := Lib.hid h1
  have F2 := Lib.hid h2
  have F3 := Lib.hid h3
  have F4 := Lib.hid h4
  clear hb h1 h2 h3 h4
  go_enter Tryz.func41, Tryz.ntmps41
  go_wp2_with fail
  refine Calls.mono (readI_is F1.out F2.out F3.out F4.out (y_0.out.alloc_ _) (by omega)) ?_
  rintro e w1 ⟨va, vb, rfl, h, hy, hb⟩
  obtain ⟨b1, A1, n1, c1, rfl, -, -, h⟩ := h.form
  obtain ⟨S1, s1, rfl, hy⟩ := hy.form
  have hB := bun (hb)
  have Kr_1 := Lib.hid (show Blk w1 (w.heap.size) 26 #[.bool false, .slice none 0 0, .bool false, .slice none 0 0] from (Blk.new _ _ (by simp) _ _).below hb)
  have HB_1 := Lib.hid (hB)
  have hs_1 : w.heap.size ≤ w1.heap.size := HB_1.out.size
  have hz_1 : w.heap.size + 1 ≤ w1.heap.size := (by have h := hb.size; (try simp at h); omega)
  clear hB hb y_0
  go_wp2_with fail
  refine Calls.mono (zero_any _) ?_
  rintro e w2 ⟨v, rfl, h, hb⟩
  obtain ⟨b2, A2, n2, c2, d2, B2, m2, k2, rfl, -, -, -, h1, h2⟩ := h.form
  have hB := bun (hb)
  have Kr_2 := Lib.hid (Kr_1.out.below hB)
  have Kn_2 := Lib.hid (show Blk w2 (w1.heap.size) 24 #[.bool b1, .slice A1 n1 c1] from (Blk.new _ _ (by simp) _ _).below hb)
  have z_2 := Lib.hid (h1)
  have z2_2 := Lib.hid (h2)
  have HB_2 := Lib.hid (below_trans HB_1.out hB)
  have hs_2 : w.heap.size ≤ w2.heap.size := HB_2.out.size
  have hz_2 : w1.heap.size + 1 ≤ w2.heap.size := (by have h := hb.size; (try simp at h); omega)
  clear hB hb Kr_1 HB_1
  obtain ⟨p10, p11, p12, p13, l1⟩ := Kr_2.out.use4
  obtain ⟨r10, r11, r12, r13⟩ := Kr_2.out.into4
  go_wp2
  obtain ⟨WF, hWF⟩ : ∃ W, W = ((((w2.setCell ⟨w.heap.size, 0, none⟩ (.bool b2)).setCell ⟨w.heap.size, 1, none⟩ (.slice A2 n2 c2)).setCell ⟨w.heap.size, 2, none⟩ (.bool d2)).setCell ⟨w.heap.size, 3, none⟩ (.slice B2 m2 k2)) := ⟨_, rfl⟩
  rw [← hWF]
  have kq : Blk WF (w.heap.size) 26 #[.bool b2, .slice A2 n2 c2, .bool d2, .slice B2 m2 k2] := by rw [hWF]; exact Kr_2.out.own4
  have hBF : Below w.heap.size w WF := by rw [hWF]; exact Below.set4 (HB_2.out) (by first | omega | (simp; omega) | simp)
  have f1 : IsInt WF (.agg #[.bool b2, .slice A2 n2 c2]) (0 : Rat).num := by rw [hWF]; exact z_2.out.other4 Kr_2.out nu nu nu nu
  have f2 : IsInt WF (.agg #[.bool d2, .slice B2 m2 k2]) ((0 : Rat).den : Int) := by rw [hWF]; exact z2_2.out.other4 Kr_2.out nu nu nu nu
  have HE : Hid (ReadResQ w WF (Ending.returned (.tuple #[.agg #[.bool b2, .slice A2 n2 c2, .bool d2, .slice B2 m2 k2], .slice none 0 0, .bool false])) false 0 0 g) := ⟨_, _, rfl, ⟨_, _, _, _, rfl, f1, f2⟩, byt_nil _ _, hBF⟩
  obtain ⟨e0, e1, e2, e3⟩ := kq.cells4
  clear hWF
  exact bodyPost_ret (v := .tuple #[.agg #[.bool b2, .slice A2 n2 c2, .bool d2, .slice B2 m2 k2], .slice none 0 0, .bool false]) (by simp [results, Tryz.results41, go_sem, e0, e1, e2, e3] <;> omega) rfl HE.out

set_option maxRecDepth 100000 in
set_option maxHeartbeats 2000000 in
theorem qread_no2 (A : Option Addr) (n c : Nat) (f : Nat → Nat) (w : World) (hn : n ≤ 200000) (hb : Byt w (.slice A n c) n f) (X : Int) (m : Nat) (f1 : Nat → Nat) (h1 : intRB f n = true) (h2 : intRV f n = X) (h3 : intRM f n = m) (h4 : readG (tl f) = f1) (Y : Int) (m2 : Nat) (f2 : Nat → Nat) (h5 : intRB f1 m = false) (h6 : intRV f1 m = Y) (h7 : intRM f1 m = m2) (h8 : readG (tl f1) = f2) (g : Nat → Nat) :
    Calls Tryz.prog 41 #[.slice A n c] w fun e w' => ReadResQ w w' e false 0 0 g := by
  have hm : m ≤ n := by rw [← h3]; exact intRM_le f n
  have y_0 := Lib.hid hb
  have F1 := Lib.hid h1
  have F2 := Lib.hid h2
  have F3 := Lib.hid h3
  have F4 := Lib.hid h4
  clear hb h1 h2 h3 h4
  have hm2 : m2 ≤ m := by rw [← h7]; exact intRM_le f1 m
  have F5 := Lib.hid h5
  have F6 := Lib.hid h6
  have F7 := Lib.hid h7
  have F8 := Lib.hid h8
  clear h5 h6 h7 h8
  go_enter Tryz.func41, Tryz.ntmps41
  go_wp2_with fail
  refine Calls.mono (readI_is F1.out F2.out F3.out F4.out (y_0.out.alloc_ _) (by omega)) ?_
  rintro e w1 ⟨va, vb, rfl, h, hy, hb⟩
  obtain ⟨b1, A1, n1, c1, rfl, -, -, h⟩ := h.form
  obtain ⟨S1, s1, rfl, hy⟩ := hy.form
  have hB := bun (hb)
  have Kr_1 := Lib.hid (show Blk w1 (w.heap.size) 26 #[.bool false, .slice none 0 0, .bool false, .slice none 0 0] from (Blk.new _ _ (by simp) _ _).below hb)
  have y_1 := Lib.hid (hy)
  have x_1 := Lib.hid (h)
  have HB_1 := Lib.hid (hB)
  have hs_1 : w.heap.size ≤ w1.heap.size := HB_1.out.size
  have hz_1 : w.heap.size + 1 ≤ w1.heap.size := (by have h := hb.size; (try simp at h); omega)
  clear hB hb y_0
  go_wp2_with fail
  refine Calls.mono (readI_is F5.out F6.out F7.out F8.out (y_1.out.alloc_ _) (by omega)) ?_
  rintro e w2 ⟨va, vb, rfl, h, hy, hb⟩
  obtain ⟨b2, A2, n2, c2, rfl, -, -, h⟩ := h.form
  obtain ⟨S2, s2, rfl, hy⟩ := hy.form
  have hB := bun (hb)
  have x_2 := Lib.hid (x_1.out.below hB)
  have Kr_2 := Lib.hid (Kr_1.out.below hB)
  have Kn_2 := Lib.hid (show Blk w2 (w1.heap.size) 24 #[.bool b1, .slice A1 n1 c1] from (Blk.new _ _ (by simp) _ _).below hb)
  have y_2 := Lib.hid (hy)
  have u_2 := Lib.hid (h)
  have HB_2 := Lib.hid (below_trans HB_1.out hB)
  have hs_2 : w.heap.size ≤ w2.heap.size := HB_2.out.size
  have hz_2 : w1.heap.size + 1 ≤ w2.heap.size := (by have h := hb.size; (try simp at h); omega)
  clear hB hb y_1 x_1 Kr_1 HB_1
  obtain ⟨p10, p11, l1⟩ := Kn_2.out.use2
  obtain ⟨p20, p21, p22, p23, l2⟩ := Kr_2.out.use4
  obtain ⟨r20, r21, r22, r23⟩ := Kr_2.out.into4
  go_wp2_with fail
  refine Calls.mono (zero_any _) ?_
  rintro e w3 ⟨v, rfl, h, hb⟩
  obtain ⟨b3, A3, n3, c3, d3, B3, m3, k3, rfl, -, -, -, h1, h2⟩ := h.form
  have hB := bun (bun (hb))
  have x_3 := Lib.hid (x_2.out.below hB)
  have y_3 := Lib.hid (y_2.out.below hB)
  have u_3 := Lib.hid (u_2.out.below hB)
  have Kr_3 := Lib.hid (Kr_2.out.below hB)
  have Kn_3 := Lib.hid (Kn_2.out.below hB)
  have Kd_3 := Lib.hid (show Blk w3 (w2.heap.size) 24 #[.bool b2, .slice A2 n2 c2] from ((Blk.new _ _ (by simp) _ _).alloc_ _).below hb)
  have Ka_3 := Lib.hid (show Blk w3 (w2.heap.size + 1) 26 #[.bool b1, .slice A1 n1 c1, .bool b2, .slice A2 n2 c2] from (Blk.new _ _ (by simp) _ _).below hb)
  have z_3 := Lib.hid (h1)
  have z2_3 := Lib.hid (h2)
  have HB_3 := Lib.hid (below_trans HB_2.out hB)
  have hs_3 : w.heap.size ≤ w3.heap.size := HB_3.out.size
  have hz_3 : w2.heap.size + 2 ≤ w3.heap.size := (by have h := hb.size; (try simp at h); omega)
  clear hB hb x_2 y_2 u_2 Kr_2 Kn_2 HB_2 p10 p11 l1 p20 p21 p22 p23 l2 r20 r21 r22 r23
  obtain ⟨p30, p31, p32, p33, l3⟩ := Kr_3.out.use4
  obtain ⟨r30, r31, r32, r33⟩ := Kr_3.out.into4
  go_wp2
  obtain ⟨WF, hWF⟩ : ∃ W, W = ((((w3.setCell ⟨w.heap.size, 0, none⟩ (.bool b3)).setCell ⟨w.heap.size, 1, none⟩ (.slice A3 n3 c3)).setCell ⟨w.heap.size, 2, none⟩ (.bool d3)).setCell ⟨w.heap.size, 3, none⟩ (.slice B3 m3 k3)) := ⟨_, rfl⟩
  rw [← hWF]
  have kq : Blk WF (w.heap.size) 26 #[.bool b3, .slice A3 n3 c3, .bool d3, .slice B3 m3 k3] := by rw [hWF]; exact Kr_3.out.own4
  have hBF : Below w.heap.size w WF := by rw [hWF]; exact Below.set4 (HB_3.out) (by first | omega | (simp; omega) | simp)
  have f1 : IsInt WF (.agg #[.bool b3, .slice A3 n3 c3]) (0 : Rat).num := by rw [hWF]; exact z_3.out.other4 Kr_3.out nu nu nu nu
  have f2 : IsInt WF (.agg #[.bool d3, .slice B3 m3 k3]) ((0 : Rat).den : Int) := by rw [hWF]; exact z2_3.out.other4 Kr_3.out nu nu nu nu
  have HE : Hid (ReadResQ w WF (Ending.returned (.tuple #[.agg #[.bool b3, .slice A3 n3 c3, .bool d3, .slice B3 m3 k3], .slice none 0 0, .bool false])) false 0 0 g) := ⟨_, _, rfl, ⟨_, _, _, _, rfl, f1, f2⟩, byt_nil _ _, hBF⟩
  obtain ⟨e0, e1, e2, e3⟩ := kq.cells4
  clear hWF
  exact bodyPost_ret (v := .tuple #[.agg #[.bool b3, .slice A3 n3 c3, .bool d3, .slice B3 m3 k3], .slice none 0 0, .bool false]) (by simp [results, Tryz.results41, go_sem, e0, e1, e2, e3] <;> omega) rfl HE.out

set_option maxRecDepth 100000 in
set_option maxHeartbeats 2000000 in
theorem qread_no3 (A : Option Addr) (n c : Nat) (f : Nat → Nat) (w : World) (hn : n ≤ 200000) (hb : Byt w (.slice A n c) n f) (X : Int) (m : Nat) (f1 : Nat → Nat) (h1 : intRB f n = true) (h2 : intRV f n = X) (h3 : intRM f n = m) (h4 : readG (tl f) = f1) (Y : Int) (m2 : Nat) (f2 : Nat → Nat) (h5 : intRB f1 m = true) (h6 : intRV f1 m = Y) (h7 : intRM f1 m = m2) (h8 : readG (tl f1) = f2) (h9 : (decide (0 < Y) && decide (Int.gcd X Y = 1)) = false) (g : Nat → Nat) :
    Calls Tryz.prog 41 #[.slice A n c] w fun e w' => ReadResQ w w' e false 0 0 g := by
  have bx := intRV_lt (f := f) (n := n) (by obtain ⟨_, _, _, _, _, h⟩ := hb; exact h)
  rw [h2] at bx
  have BX := Lib.hid bx
  clear bx
  have hm : m ≤ n := by rw [← h3]; exact intRM_le f n
  have y_0 := Lib.hid hb
  have F1 := Lib.hid h1
  have F2 := Lib.hid h2
  have F3 := Lib.hid h3
  have F4 := Lib.hid h4
  clear hb h1 h2 h3 h4
  have hm2 : m2 ≤ m := by rw [← h7]; exact intRM_le f1 m
  have F5 := Lib.hid h5
  have F6 := Lib.hid h6
  have F7 := Lib.hid h7
  have F8 := Lib.hid h8
  clear h5 h6 h7 h8
  have F9 := Lib.hid h9
  clear h9
  go_enter Tryz.func41, Tryz.ntmps41
  go_wp2_with fail
  refine Calls.mono (readI_is F1.out F2.out F3.out F4.out (y_0.out.alloc_ _) (by omega)) ?_
  rintro e w1 ⟨va, vb, rfl, h, hy, hb⟩
  obtain ⟨b1, A1, n1, c1, rfl, -, -, h⟩ := h.form
  obtain ⟨S1, s1, rfl, hy⟩ := hy.form
  have bu := intRV_lt (f := f1) (n := m) hy.small
  rw [F6.out] at bu
  have BU := Lib.hid (pow_up bu hm)
  clear bu
  have hB := bun (hb)
  have Kr_1 := Lib.hid (show Blk w1 (w.heap.size) 26 #[.bool false, .slice none 0 0, .bool false, .slice none 0 0] from (Blk.new _ _ (by simp) _ _).below hb)
  have y_1 := Lib.hid (hy)
  have x_1 := Lib.hid (h)
  have HB_1 := Lib.hid (hB)
  have hs_1 : w.heap.size ≤ w1.heap.size := HB_1.out.size
  have hz_1 : w.heap.size + 1 ≤ w1.heap.size := (by have h := hb.size; (try simp at h); omega)
  clear hB hb y_0
  go_wp2_with fail
  refine Calls.mono (readI_is F5.out F6.out F7.out F8.out (y_1.out.alloc_ _) (by omega)) ?_
  rintro e w2 ⟨va, vb, rfl, h, hy, hb⟩
  obtain ⟨b2, A2, n2, c2, rfl, -, -, h⟩ := h.form
  obtain ⟨S2, s2, rfl, hy⟩ := hy.form
  have hB := bun (hb)
  have x_2 := Lib.hid (x_1.out.below hB)
  have Kr_2 := Lib.hid (Kr_1.out.below hB)
  have Kn_2 := Lib.hid (show Blk w2 (w1.heap.size) 24 #[.bool b1, .slice A1 n1 c1] from (Blk.new _ _ (by simp) _ _).below hb)
  have y_2 := Lib.hid (hy)
  have u_2 := Lib.hid (h)
  have HB_2 := Lib.hid (below_trans HB_1.out hB)
  have hs_2 : w.heap.size ≤ w2.heap.size := HB_2.out.size
  have hz_2 : w1.heap.size + 1 ≤ w2.heap.size := (by have h := hb.size; (try simp at h); omega)
  clear hB hb y_1 x_1 Kr_1 HB_1
  obtain ⟨p10, p11, l1⟩ := Kn_2.out.use2
  obtain ⟨p20, p21, p22, p23, l2⟩ := Kr_2.out.use4
  obtain ⟨r20, r21, r22, r23⟩ := Kr_2.out.into4
  go_wp2_with fail
  refine Calls.mono (isplain_is F9.out (IsInt.lim ((x_2.out.alloc_ _).alloc_ _) BX.out) (IsInt.lim ((u_2.out.alloc_ _).alloc_ _) BU.out) (by omega)) ?_
  rintro e w3 ⟨rfl, hb⟩
  have hB := bun (bun (hb))
  have x_3 := Lib.hid (x_2.out.below hB)
  have y_3 := Lib.hid (y_2.out.below hB)
  have u_3 := Lib.hid (u_2.out.below hB)
  have Kr_3 := Lib.hid (Kr_2.out.below hB)
  have Kn_3 := Lib.hid (Kn_2.out.below hB)
  have Kd_3 := Lib.hid (show Blk w3 (w2.heap.size) 24 #[.bool b2, .slice A2 n2 c2] from ((Blk.new _ _ (by simp) _ _).alloc_ _).below hb)
  have Ka_3 := Lib.hid (show Blk w3 (w2.heap.size + 1) 26 #[.bool b1, .slice A1 n1 c1, .bool b2, .slice A2 n2 c2] from (Blk.new _ _ (by simp) _ _).below hb)
  have HB_3 := Lib.hid (below_trans HB_2.out hB)
  have hs_3 : w.heap.size ≤ w3.heap.size := HB_3.out.size
  have hz_3 : w2.heap.size + 2 ≤ w3.heap.size := (by have h := hb.size; (try simp at h); omega)
  clear hB hb x_2 y_2 u_2 Kr_2 Kn_2 HB_2 p10 p11 l1 p20 p21 p22 p23 l2 r20 r21 r22 r23
  obtain ⟨p30, p31, p32, p33, l3⟩ := Ka_3.out.use4
  obtain ⟨p40, p41, p42, p43, l4⟩ := Kr_3.out.use4
  obtain ⟨r40, r41, r42, r43⟩ := Kr_3.out.into4
  go_wp2_with fail
  refine Calls.mono (zero_any _) ?_
  rintro e w4 ⟨v, rfl, h, hb⟩
  obtain ⟨b4, A4, n4, c4, d4, B4, m4, k4, rfl, -, -, -, h1, h2⟩ := h.form
  have hB := hb
  have x_4 := Lib.hid (x_3.out.below hB)
  have y_4 := Lib.hid (y_3.out.below hB)
  have u_4 := Lib.hid (u_3.out.below hB)
  have Kr_4 := Lib.hid (Kr_3.out.below hB)
  have Kn_4 := Lib.hid (Kn_3.out.below hB)
  have Kd_4 := Lib.hid (Kd_3.out.below hB)
  have Ka_4 := Lib.hid (Ka_3.out.below hB)
  have z_4 := Lib.hid (h1)
  have z2_4 := Lib.hid (h2)
  have HB_4 := Lib.hid (below_trans HB_3.out hB)
  have hs_4 : w.heap.size ≤ w4.heap.size := HB_4.out.size
  have hz_4 : w3.heap.size + 0 ≤ w4.heap.size := (by have h := hb.size; (try simp at h); omega)
  clear hB hb x_3 y_3 u_3 Kr_3 Kn_3 Kd_3 Ka_3 HB_3 p30 p31 p32 p33 l3 p40 p41 p42 p43 l4 r40 r41 r42 r43
  obtain ⟨p50, p51, p52, p53, l5⟩ := Kr_4.out.use4
  obtain ⟨r50, r51, r52, r53⟩ := Kr_4.out.into4
  go_wp2
  obtain ⟨WF, hWF⟩ : ∃ W, W = ((((w4.setCell ⟨w.heap.size, 0, none⟩ (.bool b4)).setCell ⟨w.heap.size, 1, none⟩ (.slice A4 n4 c4)).setCell ⟨w.heap.size, 2, none⟩ (.bool d4)).setCell ⟨w.heap.size, 3, none⟩ (.slice B4 m4 k4)) := ⟨_, rfl⟩
  rw [← hWF]
  have kq : Blk WF (w.heap.size) 26 #[.bool b4, .slice A4 n4 c4, .bool d4, .slice B4 m4 k4] := by rw [hWF]; exact Kr_4.out.own4
  have hBF : Below w.heap.size w WF := by rw [hWF]; exact Below.set4 (HB_4.out) (by first | omega | (simp; omega) | simp)
  have f1 : IsInt WF (.agg #[.bool b4, .slice A4 n4 c4]) (0 : Rat).num := by rw [hWF]; exact z_4.out.other4 Kr_4.out nu nu nu nu
  have f2 : IsInt WF (.agg #[.bool d4, .slice B4 m4 k4]) ((0 : Rat).den : Int) := by rw [hWF]; exact z2_4.out.other4 Kr_4.out nu nu nu nu
  have HE : Hid (ReadResQ w WF (Ending.returned (.tuple #[.agg #[.bool b4, .slice A4 n4 c4, .bool d4, .slice B4 m4 k4], .slice none 0 0, .bool false])) false 0 0 g) := ⟨_, _, rfl, ⟨_, _, _, _, rfl, f1, f2⟩, byt_nil _ _, hBF⟩
  obtain ⟨e0, e1, e2, e3⟩ := kq.cells4
  clear hWF
  exact bodyPost_ret (v := .tuple #[.agg #[.bool b4, .slice A4 n4 c4, .bool d4, .slice B4 m4 k4], .slice none 0 0, .bool false]) (by simp [results, Tryz.results41, go_sem, e0, e1, e2, e3] <;> omega) rfl HE.out

set_option maxRecDepth 100000 in
set_option maxHeartbeats 2000000 in
theorem qread_yes (A : Option Addr) (n c : Nat) (f : Nat → Nat) (w : World) (hn : n ≤ 200000) (hb : Byt w (.slice A n c) n f) (X : Int) (m : Nat) (f1 : Nat → Nat) (h1 : intRB f n = true) (h2 : intRV f n = X) (h3 : intRM f n = m) (h4 : readG (tl f) = f1) (Y : Int) (m2 : Nat) (f2 : Nat → Nat) (h5 : intRB f1 m = true) (h6 : intRV f1 m = Y) (h7 : intRM f1 m = m2) (h8 : readG (tl f1) = f2) (h9 : (decide (0 < Y) && decide (Int.gcd X Y = 1)) = true) (q : Rat) (h10 : q.num = X) (h11 : (q.den : Int) = Y) :
    Calls Tryz.prog 41 #[.slice A n c] w fun e w' => ReadResQ w w' e true q m2 f2 := by
  have bx := intRV_lt (f := f) (n := n) (by obtain ⟨_, _, _, _, _, h⟩ := hb; exact h)
  rw [h2] at bx
  have BX := Lib.hid bx
  clear bx
  have hm : m ≤ n := by rw [← h3]; exact intRM_le f n
  have y_0 := Lib.hid hb
  have F1 := Lib.hid h1
  have F2 := Lib.hid h2
  have F3 := Lib.hid h3
  have F4 := Lib.hid h4
  clear hb h1 h2 h3 h4
  have hm2 : m2 ≤ m := by rw [← h7]; exact intRM_le f1 m
  have F5 := Lib.hid h5
  have F6 := Lib.hid h6
  have F7 := Lib.hid h7
  have F8 := Lib.hid h8
  clear h5 h6 h7 h8
  have F9 := Lib.hid h9
  have F10 := Lib.hid h10
  have F11 := Lib.hid h11
  clear h9 h10 h11
  go_enter Tryz.func41, Tryz.ntmps41
  go_wp2_with fail
  refine Calls.mono (readI_is F1.out F2.out F3.out F4.out (y_0.out.alloc_ _) (by omega)) ?_
  rintro e w1 ⟨va, vb, rfl, h, hy, hb⟩
  obtain ⟨b1, A1, n1, c1, rfl, -, -, h⟩ := h.form
  obtain ⟨S1, s1, rfl, hy⟩ := hy.form
  have bu := intRV_lt (f := f1) (n := m) hy.small
  rw [F6.out] at bu
  have BU := Lib.hid (pow_up bu hm)
  clear bu
  have hB := bun (hb)
  have Kr_1 := Lib.hid (show Blk w1 (w.heap.size) 26 #[.bool false, .slice none 0 0, .bool false, .slice none 0 0] from (Blk.new _ _ (by simp) _ _).below hb)
  have y_1 := Lib.hid (hy)
  have x_1 := Lib.hid (h)
  have HB_1 := Lib.hid (hB)
  have hs_1 : w.heap.size ≤ w1.heap.size := HB_1.out.size
  have hz_1 : w.heap.size + 1 ≤ w1.heap.size := (by have h := hb.size; (try simp at h); omega)
  clear hB hb y_0
  go_wp2_with fail
  refine Calls.mono (readI_is F5.out F6.out F7.out F8.out (y_1.out.alloc_ _) (by omega)) ?_
  rintro e w2 ⟨va, vb, rfl, h, hy, hb⟩
  obtain ⟨b2, A2, n2, c2, rfl, -, -, h⟩ := h.form
  obtain ⟨S2, s2, rfl, hy⟩ := hy.form
  have hB := bun (hb)
  have x_2 := Lib.hid (x_1.out.below hB)
  have Kr_2 := Lib.hid (Kr_1.out.below hB)
  have Kn_2 := Lib.hid (show Blk w2 (w1.heap.size) 24 #[.bool b1, .slice A1 n1 c1] from (Blk.new _ _ (by simp) _ _).below hb)
  have y_2 := Lib.hid (hy)
  have u_2 := Lib.hid (h)
  have HB_2 := Lib.hid (below_trans HB_1.out hB)
  have hs_2 : w.heap.size ≤ w2.heap.size := HB_2.out.size
  have hz_2 : w1.heap.size + 1 ≤ w2.heap.size := (by have h := hb.size; (try simp at h); omega)
  clear hB hb y_1 x_1 Kr_1 HB_1
  obtain ⟨p10, p11, l1⟩ := Kn_2.out.use2
  obtain ⟨p20, p21, p22, p23, l2⟩ := Kr_2.out.use4
  obtain ⟨r20, r21, r22, r23⟩ := Kr_2.out.into4
  go_wp2_with fail
  refine Calls.mono (isplain_is F9.out (IsInt.lim ((x_2.out.alloc_ _).alloc_ _) BX.out) (IsInt.lim ((u_2.out.alloc_ _).alloc_ _) BU.out) (by omega)) ?_
  rintro e w3 ⟨rfl, hb⟩
  have hB := bun (bun (hb))
  have x_3 := Lib.hid (x_2.out.below hB)
  have y_3 := Lib.hid (y_2.out.below hB)
  have u_3 := Lib.hid (u_2.out.below hB)
  have Kr_3 := Lib.hid (Kr_2.out.below hB)
  have Kn_3 := Lib.hid (Kn_2.out.below hB)
  have Kd_3 := Lib.hid (show Blk w3 (w2.heap.size) 24 #[.bool b2, .slice A2 n2 c2] from ((Blk.new _ _ (by simp) _ _).alloc_ _).below hb)
  have Ka_3 := Lib.hid (show Blk w3 (w2.heap.size + 1) 26 #[.bool b1, .slice A1 n1 c1, .bool b2, .slice A2 n2 c2] from (Blk.new _ _ (by simp) _ _).below hb)
  have HB_3 := Lib.hid (below_trans HB_2.out hB)
  have hs_3 : w.heap.size ≤ w3.heap.size := HB_3.out.size
  have hz_3 : w2.heap.size + 2 ≤ w3.heap.size := (by have h := hb.size; (try simp at h); omega)
  clear hB hb x_2 y_2 u_2 Kr_2 Kn_2 HB_2 p10 p11 l1 p20 p21 p22 p23 l2 r20 r21 r22 r23
  obtain ⟨p30, p31, p32, p33, l3⟩ := Ka_3.out.use4
  obtain ⟨p40, p41, p42, p43, l4⟩ := Kr_3.out.use4
  obtain ⟨r40, r41, r42, r43⟩ := Kr_3.out.into4
  go_wp2
  obtain ⟨WF, hWF⟩ : ∃ W, W = ((((w3.setCell ⟨w.heap.size, 0, none⟩ (.bool b1)).setCell ⟨w.heap.size, 1, none⟩ (.slice A1 n1 c1)).setCell ⟨w.heap.size, 2, none⟩ (.bool b2)).setCell ⟨w.heap.size, 3, none⟩ (.slice A2 n2 c2)) := ⟨_, rfl⟩
  rw [← hWF]
  have kq : Blk WF (w.heap.size) 26 #[.bool b1, .slice A1 n1 c1, .bool b2, .slice A2 n2 c2] := by rw [hWF]; exact Kr_3.out.own4
  have hBF : Below w.heap.size w WF := by rw [hWF]; exact Below.set4 (HB_3.out) (by first | omega | (simp; omega) | simp)
  have u1 : IsInt WF (.agg #[.bool b1, .slice A1 n1 c1]) X := by rw [hWF]; exact x_3.out.other4 Kr_3.out nu nu nu nu
  have u2 : IsInt WF (.agg #[.bool b2, .slice A2 n2 c2]) Y := by rw [hWF]; exact u_3.out.other4 Kr_3.out nu nu nu nu
  have u3 : Byt WF (.slice S2 m2 s2) m2 f2 := by rw [hWF]; exact y_3.out.other4 Kr_3.out nu nu nu nu
  have HE : Hid (ReadResQ w WF (Ending.returned (.tuple #[.agg #[.bool b1, .slice A1 n1 c1, .bool b2, .slice A2 n2 c2], .slice S2 m2 s2, .bool true])) true q m2 f2) := ⟨_, _, rfl, ⟨_, _, _, _, rfl, by rw [F10.out]; exact u1, by rw [F11.out]; exact u2⟩, u3, hBF⟩
  obtain ⟨e0, e1, e2, e3⟩ := kq.cells4
  clear hWF
  exact bodyPost_ret (v := .tuple #[.agg #[.bool b1, .slice A1 n1 c1, .bool b2, .slice A2 n2 c2], .slice S2 m2 s2, .bool true]) (by simp [results, Tryz.results41, go_sem, e0, e1, e2, e3] <;> omega) rfl HE.out

theorem q_read {w : World} {v : Value} {n : Nat} {f : Nat → Nat} (h : Byt w v n f) (hn : n ≤ 200000) : Calls Tryz.prog 41 #[v] w fun e w' => ReadResQ w w' e (qOk f n) (qRV f n) (qRM f n) (qRG f) := by
  obtain ⟨A, c, rfl, h⟩ := h.form
  cases h0 : qOk f n
  · obtain ⟨e1, e2⟩ := qRead_no h0
    rw [e1, e2]
    unfold qOk at h0
    cases h1 : intRB f n
    · exact qread_no1 A n c f w hn h _ _ _ h1 rfl rfl rfl _
    · cases h2 : intRB (readG (tl f)) (intRM f n)
      · exact qread_no2 A n c f w hn h _ _ _ h1 rfl rfl rfl _ _ _ h2 rfl rfl rfl _
      · rw [h1, h2, Bool.true_and, Bool.true_and] at h0
        exact qread_no3 A n c f w hn h _ _ _ h1 rfl rfl rfl _ _ _ h2 rfl rfl rfl h0 _
  · have e1 : qRV f n = Rat.divInt (intRV f n) (intRV (readG (tl f)) (intRM f n)) := by unfold qRV; rw [if_pos h0]
    have e2 : qRM f n = intRM (readG (tl f)) (intRM f n) := by unfold qRM; rw [if_pos h0]
    rw [e1, e2]
    unfold qOk at h0
    rw [Bool.and_eq_true, Bool.and_eq_true] at h0
    obtain ⟨h1, h2, h3⟩ := h0
    have h4 := h3
    rw [Bool.and_eq_true, decide_eq_true_eq, decide_eq_true_eq] at h4
    obtain ⟨c1, c2⟩ := divInt_cop h4.1 h4.2
    exact qread_yes A n c f w hn h _ _ _ h1 rfl rfl rfl _ _ _ h2 rfl rfl rfl h3 _ c1 c2
end Go.Proofs.YtglcififcldchaaGreatDoor
