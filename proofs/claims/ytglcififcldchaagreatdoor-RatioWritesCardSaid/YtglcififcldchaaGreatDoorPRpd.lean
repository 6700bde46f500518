/- Contracts of the document's own fractions: Parse, for what it calls. -/
import Derived.Test.YtglcififcldchaaGreatDoorPRpc
import Derived.Test.YtglcififcldchaaGreatDoorPRo
import Derived.Test.YtglcififcldchaaGreatDoorPWt
namespace Go.Proofs.YtglcififcldchaaGreatDoor
open Go.RowKit
attribute [local go_sem ↓] Go.wp_at_zero Go.wp_at_succ
set_option linter.unusedVariables false

theorem rparseI_is (s : ByteArray) (w : World) (b : Bool) (hs : s.size ≤ 1000) (h : intB s = b) : Calls Tryz.prog 79 #[.string s] w fun e w' => ∃ v, e = .returned (.tuple #[v, .bool b]) ∧ IsInt w' v (intV s) ∧ Below w.heap.size w w' := by
  have := str_rparseI s w (by omega)
  rw [h] at this
  exact this
theorem rparse_isB (s : ByteArray) (w : World) (b : Bool) (hs : s.size ≤ 1001) (h : isNumB s = b) : Calls Tryz.prog 80 #[.string s] w fun e w' => ParsePost w w' e b (numV s) := by
  have := str_rparse s w (by omega)
  rw [h] at this
  exact this
theorem numV_limD {s : ByteArray} {K : Nat} (hs : s.size ≤ K) : numV s < 4294967296 ^ K := Nat.lt_of_lt_of_le (numV_lt s) (Nat.pow_le_pow_right (by omega) hs)
theorem intV_limD {s : ByteArray} {K : Nat} (hs : s.size ≤ K) : (intV s).natAbs < 4294967296 ^ K := by
  unfold intV
  rw [sg_abs]
  exact numV_limD (Nat.le_trans (digitsOf_size s) hs)
theorem len_zero {n N : Nat} (h : 0 < n ↔ 0 < N) (h3 : N = 0) : ((n : Int) == 0) = true := by
  rw [beq_iff_eq]; omega
theorem len_some {n N : Nat} (h : 0 < n ↔ 0 < N) (h3 : 0 < N) : ((n : Int) == 0) = false := by
  rw [beq_eq_false_iff_ne]; omega
theorem find_is (s : ByteArray) (c : Int) (u : UInt8) (i : Int) (w : World) (hs : s.size ≤ 1000) (hc : c = (u.toNat : Int)) (h : Lib.indexByte s.data.toList u = i) : Calls Tryz.prog 77 #[.string s, .int .u8 c] w fun e w' => e = .returned (.int .i64 i) ∧ w' = w := by
  subst hc h
  exact find_any s u w hs

set_option maxRecDepth 100000 in
set_option maxHeartbeats 2000000 in
theorem rp_empty (s : ByteArray) (w : World) (hs : s.size ≤ 1000) (h0 : s.size = 0) :
    Calls Tryz.prog 40 #[.string s] w fun e w' => RatOfPost w w' e 0 false := by
  have g0 : ((s.size : Int) == 0) = true := by rw [beq_iff_eq]; omega
  go_enter Tryz.func40, Tryz.ntmps40
  go_wp2_with fail
  refine Calls.mono (rzero_any _) ?_
  rintro e w1 ⟨v, rfl, h, hb⟩
  obtain ⟨b1, A1, n1, c1, d1, B1, m1, k1, rfl, -, -, -, h1, h2⟩ := h.form
  have hB := bun (hb)
  have Kr_1 := Lib.hid (show Blk w1 (w.heap.size) 26 #[.bool false, .slice none 0 0, .bool false, .slice none 0 0] from (Blk.new _ _ (by simp) _ _).below hb)
  have z_1 := Lib.hid (h1)
  have z2_1 := Lib.hid (h2)
  have HB_1 := Lib.hid (hB)
  have hs_1 : w.heap.size ≤ w1.heap.size := HB_1.out.size
  have hz_1 : w.heap.size + 1 ≤ w1.heap.size := (by have h := hb.size; (try simp at h); omega)
  clear hB hb 
  obtain ⟨p10, p11, p12, p13, l1⟩ := Kr_1.out.use4
  obtain ⟨r10, r11, r12, r13⟩ := Kr_1.out.into4
  go_wp2
  obtain ⟨WF, hWF⟩ : ∃ W, W = ((((w1.setCell ⟨w.heap.size, 0, none⟩ (.bool b1)).setCell ⟨w.heap.size, 1, none⟩ (.slice A1 n1 c1)).setCell ⟨w.heap.size, 2, none⟩ (.bool d1)).setCell ⟨w.heap.size, 3, none⟩ (.slice B1 m1 k1)) := ⟨_, rfl⟩
  rw [← hWF]
  have kq : Blk WF (w.heap.size) 26 #[.bool b1, .slice A1 n1 c1, .bool d1, .slice B1 m1 k1] := by rw [hWF]; exact Kr_1.out.own4
  have hBF : Below w.heap.size w WF := by rw [hWF]; exact Below.set4 (HB_1.out) (by first | omega | (simp; omega) | simp)
  have f1 : IsInt WF (.agg #[.bool b1, .slice A1 n1 c1]) (0 : Rat).num := by rw [hWF]; exact z_1.out.other4 Kr_1.out nu nu nu nu
  have f2 : IsInt WF (.agg #[.bool d1, .slice B1 m1 k1]) ((0 : Rat).den : Int) := by rw [hWF]; exact z2_1.out.other4 Kr_1.out nu nu nu nu
  have HE : Hid (RatOfPost w WF (Ending.returned (.tuple #[.agg #[.bool b1, .slice A1 n1 c1, .bool d1, .slice B1 m1 k1], .bool false])) 0 false) := ⟨_, rfl, ⟨_, _, _, _, rfl, f1, f2⟩, hBF⟩
  obtain ⟨e0, e1, e2, e3⟩ := kq.cells4
  clear hWF
  exact bodyPost_ret (v := .tuple #[.agg #[.bool b1, .slice A1 n1 c1, .bool d1, .slice B1 m1 k1], .bool false]) (by simp [results, Tryz.results40, go_sem, e0, e1, e2, e3] <;> omega) rfl HE.out

set_option maxRecDepth 100000 in
set_option maxHeartbeats 2000000 in
theorem rp_point (s : ByteArray) (w : World) (hs : s.size ≤ 1000) (h0 : 0 < s.size) (h1 : Lib.indexByte s.data.toList 46 = 0) :
    Calls Tryz.prog 40 #[.string s] w fun e w' => RatOfPost w w' e 0 false := by
  have hsd : decide ((1000 : Int) < (s.size : Int)) = false := decide_eq_false (by omega)
  have hsi : (s.size : Int) ≤ 1000 := by omega
  have g0 : ((s.size : Int) == 0) = false := by rw [beq_eq_false_iff_ne]; omega
  go_enter Tryz.func40, Tryz.ntmps40
  go_wp2_with fail
  refine Calls.mono (find_is s _ 46 _ _ hs rfl h1) ?_
  rintro e w0 ⟨rfl, rfl⟩
  clear h1
  go_wp2_with fail
  refine Calls.mono (rzero_any _) ?_
  rintro e w1 ⟨v, rfl, h, hb⟩
  obtain ⟨b1, A1, n1, c1, d1, B1, m1, k1, rfl, -, -, -, h1, h2⟩ := h.form
  have hB := bun (hb)
  have Kr_1 := Lib.hid (show Blk w1 (w.heap.size) 26 #[.bool false, .slice none 0 0, .bool false, .slice none 0 0] from (Blk.new _ _ (by simp) _ _).below hb)
  have z_1 := Lib.hid (h1)
  have z2_1 := Lib.hid (h2)
  have HB_1 := Lib.hid (hB)
  have hs_1 : w.heap.size ≤ w1.heap.size := HB_1.out.size
  have hz_1 : w.heap.size + 1 ≤ w1.heap.size := (by have h := hb.size; (try simp at h); omega)
  clear hB hb 
  obtain ⟨p10, p11, p12, p13, l1⟩ := Kr_1.out.use4
  obtain ⟨r10, r11, r12, r13⟩ := Kr_1.out.into4
  go_wp2
  obtain ⟨WF, hWF⟩ : ∃ W, W = ((((w1.setCell ⟨w.heap.size, 0, none⟩ (.bool b1)).setCell ⟨w.heap.size, 1, none⟩ (.slice A1 n1 c1)).setCell ⟨w.heap.size, 2, none⟩ (.bool d1)).setCell ⟨w.heap.size, 3, none⟩ (.slice B1 m1 k1)) := ⟨_, rfl⟩
  rw [← hWF]
  have kq : Blk WF (w.heap.size) 26 #[.bool b1, .slice A1 n1 c1, .bool d1, .slice B1 m1 k1] := by rw [hWF]; exact Kr_1.out.own4
  have hBF : Below w.heap.size w WF := by rw [hWF]; exact Below.set4 (HB_1.out) (by first | omega | (simp; omega) | simp)
  have f1 : IsInt WF (.agg #[.bool b1, .slice A1 n1 c1]) (0 : Rat).num := by rw [hWF]; exact z_1.out.other4 Kr_1.out nu nu nu nu
  have f2 : IsInt WF (.agg #[.bool d1, .slice B1 m1 k1]) ((0 : Rat).den : Int) := by rw [hWF]; exact z2_1.out.other4 Kr_1.out nu nu nu nu
  have HE : Hid (RatOfPost w WF (Ending.returned (.tuple #[.agg #[.bool b1, .slice A1 n1 c1, .bool d1, .slice B1 m1 k1], .bool false])) 0 false) := ⟨_, rfl, ⟨_, _, _, _, rfl, f1, f2⟩, hBF⟩
  obtain ⟨e0, e1, e2, e3⟩ := kq.cells4
  clear hWF
  exact bodyPost_ret (v := .tuple #[.agg #[.bool b1, .slice A1 n1 c1, .bool d1, .slice B1 m1 k1], .bool false]) (by simp [results, Tryz.results40, go_sem, e0, e1, e2, e3] <;> omega) rfl HE.out

set_option maxRecDepth 100000 in
set_option maxHeartbeats 2000000 in
theorem rp_minus (s : ByteArray) (w : World) (hs : s.size ≤ 1000) (h0 : 0 < s.size) (h1 : Lib.indexByte s.data.toList 46 = 1) (hz : (((s[0]'(by omega)).toNat : Int) == 45) = true) :
    Calls Tryz.prog 40 #[.string s] w fun e w' => RatOfPost w w' e 0 false := by
  have hsd : decide ((1000 : Int) < (s.size : Int)) = false := decide_eq_false (by omega)
  have hsi : (s.size : Int) ≤ 1000 := by omega
  have g0 : ((s.size : Int) == 0) = false := by rw [beq_eq_false_iff_ne]; omega
  go_enter Tryz.func40, Tryz.ntmps40
  go_wp2_with fail
  refine Calls.mono (find_is s _ 46 _ _ hs rfl h1) ?_
  rintro e w0 ⟨rfl, rfl⟩
  clear h1
  go_wp2_with fail
  refine Calls.mono (rzero_any _) ?_
  rintro e w1 ⟨v, rfl, h, hb⟩
  obtain ⟨b1, A1, n1, c1, d1, B1, m1, k1, rfl, -, -, -, h1, h2⟩ := h.form
  have hB := bun (hb)
  have Kr_1 := Lib.hid (show Blk w1 (w.heap.size) 26 #[.bool false, .slice none 0 0, .bool false, .slice none 0 0] from (Blk.new _ _ (by simp) _ _).below hb)
  have z_1 := Lib.hid (h1)
  have z2_1 := Lib.hid (h2)
  have HB_1 := Lib.hid (hB)
  have hs_1 : w.heap.size ≤ w1.heap.size := HB_1.out.size
  have hz_1 : w.heap.size + 1 ≤ w1.heap.size := (by have h := hb.size; (try simp at h); omega)
  clear hB hb 
  obtain ⟨p10, p11, p12, p13, l1⟩ := Kr_1.out.use4
  obtain ⟨r10, r11, r12, r13⟩ := Kr_1.out.into4
  go_wp2
  obtain ⟨WF, hWF⟩ : ∃ W, W = ((((w1.setCell ⟨w.heap.size, 0, none⟩ (.bool b1)).setCell ⟨w.heap.size, 1, none⟩ (.slice A1 n1 c1)).setCell ⟨w.heap.size, 2, none⟩ (.bool d1)).setCell ⟨w.heap.size, 3, none⟩ (.slice B1 m1 k1)) := ⟨_, rfl⟩
  rw [← hWF]
  have kq : Blk WF (w.heap.size) 26 #[.bool b1, .slice A1 n1 c1, .bool d1, .slice B1 m1 k1] := by rw [hWF]; exact Kr_1.out.own4
  have hBF : Below w.heap.size w WF := by rw [hWF]; exact Below.set4 (HB_1.out) (by first | omega | (simp; omega) | simp)
  have f1 : IsInt WF (.agg #[.bool b1, .slice A1 n1 c1]) (0 : Rat).num := by rw [hWF]; exact z_1.out.other4 Kr_1.out nu nu nu nu
  have f2 : IsInt WF (.agg #[.bool d1, .slice B1 m1 k1]) ((0 : Rat).den : Int) := by rw [hWF]; exact z2_1.out.other4 Kr_1.out nu nu nu nu
  have HE : Hid (RatOfPost w WF (Ending.returned (.tuple #[.agg #[.bool b1, .slice A1 n1 c1, .bool d1, .slice B1 m1 k1], .bool false])) 0 false) := ⟨_, rfl, ⟨_, _, _, _, rfl, f1, f2⟩, hBF⟩
  obtain ⟨e0, e1, e2, e3⟩ := kq.cells4
  clear hWF
  exact bodyPost_ret (v := .tuple #[.agg #[.bool b1, .slice A1 n1 c1, .bool d1, .slice B1 m1 k1], .bool false]) (by simp [results, Tryz.results40, go_sem, e0, e1, e2, e3] <;> omega) rfl HE.out

set_option maxRecDepth 100000 in
set_option maxHeartbeats 2000000 in
theorem rp_dec1 (s : ByteArray) (w : World) (hs : s.size ≤ 1000) (h0 : 0 < s.size) (h1 : Lib.indexByte s.data.toList 46 = 1) (hz : (((s[0]'(by omega)).toNat : Int) == 45) = false) (q : Rat) (ok : Bool) (HD : ∀ w, Calls Tryz.prog 78 #[.string s, .int .i64 1] w fun e w' => RatOfPost w w' e q ok) :
    Calls Tryz.prog 40 #[.string s] w fun e w' => RatOfPost w w' e q ok := by
  have hsd : decide ((1000 : Int) < (s.size : Int)) = false := decide_eq_false (by omega)
  have hsi : (s.size : Int) ≤ 1000 := by omega
  have g0 : ((s.size : Int) == 0) = false := by rw [beq_eq_false_iff_ne]; omega
  have HP := fun w => Lib.hid (HD w)
  clear HD
  go_enter Tryz.func40, Tryz.ntmps40
  go_wp2_with fail
  refine Calls.mono (find_is s _ 46 _ _ hs rfl h1) ?_
  rintro e w0 ⟨rfl, rfl⟩
  clear h1
  go_wp2_with fail
  refine Calls.mono ((HP _).out) ?_
  rintro e w1 ⟨v, rfl, h, hb⟩
  obtain ⟨b1, A1, n1, c1, d1, B1, m1, k1, rfl, -, -, -, h1, h2⟩ := h.form
  have hB := bun (hb)
  have Kr_1 := Lib.hid (show Blk w1 (w.heap.size) 26 #[.bool false, .slice none 0 0, .bool false, .slice none 0 0] from (Blk.new _ _ (by simp) _ _).below hb)
  have z_1 := Lib.hid (h1)
  have z2_1 := Lib.hid (h2)
  have HB_1 := Lib.hid (hB)
  have hs_1 : w.heap.size ≤ w1.heap.size := HB_1.out.size
  have hz_1 : w.heap.size + 1 ≤ w1.heap.size := (by have h := hb.size; (try simp at h); omega)
  clear hB hb 
  obtain ⟨p10, p11, p12, p13, l1⟩ := Kr_1.out.use4
  obtain ⟨r10, r11, r12, r13⟩ := Kr_1.out.into4
  go_wp2
  obtain ⟨WF, hWF⟩ : ∃ W, W = ((((w1.setCell ⟨w.heap.size, 0, none⟩ (.bool b1)).setCell ⟨w.heap.size, 1, none⟩ (.slice A1 n1 c1)).setCell ⟨w.heap.size, 2, none⟩ (.bool d1)).setCell ⟨w.heap.size, 3, none⟩ (.slice B1 m1 k1)) := ⟨_, rfl⟩
  rw [← hWF]
  have kq : Blk WF (w.heap.size) 26 #[.bool b1, .slice A1 n1 c1, .bool d1, .slice B1 m1 k1] := by rw [hWF]; exact Kr_1.out.own4
  have hBF : Below w.heap.size w WF := by rw [hWF]; exact Below.set4 (HB_1.out) (by first | omega | (simp; omega) | simp)
  have f1 : IsInt WF (.agg #[.bool b1, .slice A1 n1 c1]) q.num := by rw [hWF]; exact z_1.out.other4 Kr_1.out nu nu nu nu
  have f2 : IsInt WF (.agg #[.bool d1, .slice B1 m1 k1]) (q.den : Int) := by rw [hWF]; exact z2_1.out.other4 Kr_1.out nu nu nu nu
  have HE : Hid (RatOfPost w WF (Ending.returned (.tuple #[.agg #[.bool b1, .slice A1 n1 c1, .bool d1, .slice B1 m1 k1], .bool ok])) q ok) := ⟨_, rfl, ⟨_, _, _, _, rfl, f1, f2⟩, hBF⟩
  obtain ⟨e0, e1, e2, e3⟩ := kq.cells4
  clear hWF
  exact bodyPost_ret (v := .tuple #[.agg #[.bool b1, .slice A1 n1 c1, .bool d1, .slice B1 m1 k1], .bool ok]) (by simp [results, Tryz.results40, go_sem, e0, e1, e2, e3] <;> omega) rfl HE.out

set_option maxRecDepth 100000 in
set_option maxHeartbeats 2000000 in
theorem rp_dec (s : ByteArray) (w : World) (hs : s.size ≤ 1000) (h0 : 0 < s.size) (i : Nat) (hi : 1 < i) (h1 : Lib.indexByte s.data.toList 46 = i) (q : Rat) (ok : Bool) (HD : ∀ w, Calls Tryz.prog 78 #[.string s, .int .i64 (i : Int)] w fun e w' => RatOfPost w w' e q ok) :
    Calls Tryz.prog 40 #[.string s] w fun e w' => RatOfPost w w' e q ok := by
  have hsd : decide ((1000 : Int) < (s.size : Int)) = false := decide_eq_false (by omega)
  have hsi : (s.size : Int) ≤ 1000 := by omega
  have g0 : ((s.size : Int) == 0) = false := by rw [beq_eq_false_iff_ne]; omega
  have g1 : ((i : Int) == 0) = false := by rw [beq_eq_false_iff_ne]; omega
  have g2 : ((i : Int) == 1) = false := by rw [beq_eq_false_iff_ne]; omega
  have hi2 : (0 : Int) < (i : Int) := by omega
  have HP := fun w => Lib.hid (HD w)
  clear HD
  go_enter Tryz.func40, Tryz.ntmps40
  go_wp2_with fail
  refine Calls.mono (find_is s _ 46 _ _ hs rfl h1) ?_
  rintro e w0 ⟨rfl, rfl⟩
  clear h1
  go_wp2_with fail
  refine Calls.mono ((HP _).out) ?_
  rintro e w1 ⟨v, rfl, h, hb⟩
  obtain ⟨b1, A1, n1, c1, d1, B1, m1, k1, rfl, -, -, -, h1, h2⟩ := h.form
  have hB := bun (hb)
  have Kr_1 := Lib.hid (show Blk w1 (w.heap.size) 26 #[.bool false, .slice none 0 0, .bool false, .slice none 0 0] from (Blk.new _ _ (by simp) _ _).below hb)
  have z_1 := Lib.hid (h1)
  have z2_1 := Lib.hid (h2)
  have HB_1 := Lib.hid (hB)
  have hs_1 : w.heap.size ≤ w1.heap.size := HB_1.out.size
  have hz_1 : w.heap.size + 1 ≤ w1.heap.size := (by have h := hb.size; (try simp at h); omega)
  clear hB hb 
  obtain ⟨p10, p11, p12, p13, l1⟩ := Kr_1.out.use4
  obtain ⟨r10, r11, r12, r13⟩ := Kr_1.out.into4
  go_wp2
  obtain ⟨WF, hWF⟩ : ∃ W, W = ((((w1.setCell ⟨w.heap.size, 0, none⟩ (.bool b1)).setCell ⟨w.heap.size, 1, none⟩ (.slice A1 n1 c1)).setCell ⟨w.heap.size, 2, none⟩ (.bool d1)).setCell ⟨w.heap.size, 3, none⟩ (.slice B1 m1 k1)) := ⟨_, rfl⟩
  rw [← hWF]
  have kq : Blk WF (w.heap.size) 26 #[.bool b1, .slice A1 n1 c1, .bool d1, .slice B1 m1 k1] := by rw [hWF]; exact Kr_1.out.own4
  have hBF : Below w.heap.size w WF := by rw [hWF]; exact Below.set4 (HB_1.out) (by first | omega | (simp; omega) | simp)
  have f1 : IsInt WF (.agg #[.bool b1, .slice A1 n1 c1]) q.num := by rw [hWF]; exact z_1.out.other4 Kr_1.out nu nu nu nu
  have f2 : IsInt WF (.agg #[.bool d1, .slice B1 m1 k1]) (q.den : Int) := by rw [hWF]; exact z2_1.out.other4 Kr_1.out nu nu nu nu
  have HE : Hid (RatOfPost w WF (Ending.returned (.tuple #[.agg #[.bool b1, .slice A1 n1 c1, .bool d1, .slice B1 m1 k1], .bool ok])) q ok) := ⟨_, rfl, ⟨_, _, _, _, rfl, f1, f2⟩, hBF⟩
  obtain ⟨e0, e1, e2, e3⟩ := kq.cells4
  clear hWF
  exact bodyPost_ret (v := .tuple #[.agg #[.bool b1, .slice A1 n1 c1, .bool d1, .slice B1 m1 k1], .bool ok]) (by simp [results, Tryz.results40, go_sem, e0, e1, e2, e3] <;> omega) rfl HE.out

set_option maxRecDepth 100000 in
set_option maxHeartbeats 2000000 in
theorem rp_whole (s : ByteArray) (w : World) (hs : s.size ≤ 1000) (h0 : 0 < s.size) (h1 : Lib.indexByte s.data.toList 46 = -1) (h2 : Lib.indexByte s.data.toList 47 = -1) (ok : Bool) (hok : intB s = ok) :
    Calls Tryz.prog 40 #[.string s] w fun e w' => RatOfPost w w' e (intV s : Rat) ok := by
  have hsd : decide ((1000 : Int) < (s.size : Int)) = false := decide_eq_false (by omega)
  have hsi : (s.size : Int) ≤ 1000 := by omega
  have g0 : ((s.size : Int) == 0) = false := by rw [beq_eq_false_iff_ne]; omega
  go_enter Tryz.func40, Tryz.ntmps40
  go_wp2_with fail
  refine Calls.mono (find_is s _ 46 _ _ hs rfl h1) ?_
  rintro e w0 ⟨rfl, rfl⟩
  clear h1
  go_wp2_with fail
  refine Calls.mono (find_is s _ 47 _ _ hs rfl h2) ?_
  rintro e w0 ⟨rfl, rfl⟩
  clear h2
  go_wp2_with fail
  refine Calls.mono (rparseI_is s _ ok hs hok) ?_
  rintro e w1 ⟨v, rfl, h, hb⟩
  obtain ⟨b1, A1, n1, c1, rfl, -, -, h⟩ := h.form
  have hB := bun (hb)
  have Kr_1 := Lib.hid (show Blk w1 (w.heap.size) 26 #[.bool false, .slice none 0 0, .bool false, .slice none 0 0] from (Blk.new _ _ (by simp) _ _).below hb)
  have n_1 := Lib.hid (h)
  have HB_1 := Lib.hid (hB)
  have hs_1 : w.heap.size ≤ w1.heap.size := HB_1.out.size
  have hz_1 : w.heap.size + 1 ≤ w1.heap.size := (by have h := hb.size; (try simp at h); omega)
  clear hB hb 
  go_wp2
  generalize hW : (w1.alloc (.cells #[.bool b1, .slice A1 n1 c1] 24)) = w2
  have n_2 := Lib.hid (hW ▸ (n_1.out.alloc_ _))
  have Kr_2 := Lib.hid (show Blk w2 (w.heap.size) 26 #[.bool false, .slice none 0 0, .bool false, .slice none 0 0] from by rw [← hW]; exact (Kr_1.out.alloc_ _))
  have Kn_2 := Lib.hid (show Blk w2 (w1.heap.size) 24 #[.bool b1, .slice A1 n1 c1] from by rw [← hW]; exact Blk.new _ _ (by simp) _ _)
  have HB_2 := Lib.hid (show Below w.heap.size w w2 from by rw [← hW]; exact halloc (HB_1.out))
  have hs_2 : w.heap.size ≤ w2.heap.size := HB_2.out.size
  have hz_2 : w1.heap.size + 1 ≤ w2.heap.size := by rw [← hW]; simp
  clear hW n_1 Kr_1 HB_1
  obtain ⟨p10, p11, l1⟩ := Kn_2.out.use2
  have tok0 : True := trivial
  go_region_held3 (fun w' => w'.cell? ⟨w1.heap.size, 0, none⟩ = some (.bool b1) ∧ w'.cell? ⟨w1.heap.size, 1, none⟩ = some (.slice A1 n1 c1)) (first | (refine ⟨?_, ?_⟩ <;> (first | with_reducible assumption | ((with_reducible refine Eq.trans (cell_drew _ _) ?_); with_reducible assumption) | ((rw [cell_far4 _ _ _ _ _ _ _ _ (by omega)]); with_reducible assumption) | ((repeat rw [cell_far2 _ _ _ _ _ _ (by omega)]); with_reducible assumption) | go_keep)) | trivial | go_keep)
    (first
      | (go_at_call 48; have _t := tok0; clear _t tok0; ((with_reducible refine Calls.mono (rof_any 1 _ (by omega) (by omega)) ?_)); rintro e w3 ⟨v, rfl, h, hb⟩; obtain ⟨b3, A3, n3, c3, rfl, -, -, h⟩ := h.form; have hB := (show Below w2.heap.size w2 w3 from by first | exact hb | exact bundrew hb | exact bun hb | exact bundrew (bun hb) | exact bun (bundrew hb)); have n_3 := Lib.hid (n_2.out.below hB); have Kr_3 := Lib.hid (Kr_2.out.below hB); have Kn_3 := Lib.hid (Kn_2.out.below hB); have d_3 := Lib.hid (h); have HB_3 := Lib.hid (below_trans HB_2.out hB); have hs_3 : w.heap.size ≤ w3.heap.size := HB_3.out.size; have hz_3 : w2.heap.size + 0 ≤ w3.heap.size := (by have h := hb.size; (try simp at h); omega); clear hB hb n_2 Kr_2 Kn_2 HB_2 p10 p11 l1; obtain ⟨p20, p21, l2⟩ := Kn_3.out.use2; obtain ⟨p30, p31, p32, p33, l3⟩ := Kr_3.out.use4; obtain ⟨r30, r31, r32, r33⟩ := Kr_3.out.into4))
  go_wp2
  obtain ⟨WF, hWF⟩ : ∃ W, W = ((((w3.setCell ⟨w.heap.size, 0, none⟩ (.bool b1)).setCell ⟨w.heap.size, 1, none⟩ (.slice A1 n1 c1)).setCell ⟨w.heap.size, 2, none⟩ (.bool b3)).setCell ⟨w.heap.size, 3, none⟩ (.slice A3 n3 c3)) := ⟨_, rfl⟩
  rw [← hWF]
  have kq : Blk WF (w.heap.size) 26 #[.bool b1, .slice A1 n1 c1, .bool b3, .slice A3 n3 c3] := by rw [hWF]; exact Kr_3.out.own4
  have hBF : Below w.heap.size w WF := by rw [hWF]; exact Below.set4 (HB_3.out) (by first | omega | (simp; omega) | simp)
  have f1 : IsInt WF (.agg #[.bool b1, .slice A1 n1 c1]) (intV s) := by rw [hWF]; exact n_3.out.other4 Kr_3.out nu nu nu nu
  have f2 : IsInt WF (.agg #[.bool b3, .slice A3 n3 c3]) 1 := by rw [hWF]; exact d_3.out.other4 Kr_3.out nu nu nu nu
  have HE : Hid (RatOfPost w WF (Ending.returned (.tuple #[.agg #[.bool b1, .slice A1 n1 c1, .bool b3, .slice A3 n3 c3], .bool ok])) (intV s : Rat) ok) := ⟨_, rfl, ⟨_, _, _, _, rfl, by rw [Rat.num_intCast]; exact f1, by rw [Rat.den_intCast]; exact f2⟩, hBF⟩
  obtain ⟨e0, e1, e2, e3⟩ := kq.cells4
  clear hWF
  exact bodyPost_ret (v := .tuple #[.agg #[.bool b1, .slice A1 n1 c1, .bool b3, .slice A3 n3 c3], .bool ok]) (by simp [results, Tryz.results40, go_sem, e0, e1, e2, e3] <;> omega) rfl HE.out

theorem lq_quot {k : Nat} {w : World} {b : Bool} {A : Option Addr} {n c : Nat} {m : Value} {X : Int} {N : Nat} (h : IsInt w (.agg #[.bool b, .slice A n c]) X) (hX : X.natAbs < 4294967296 ^ k) (h' : IsNat w m N) (hN : N < 4294967296 ^ k) (h0 : 0 < N) : LimQ k w (.agg #[.bool b, .slice A n c, .bool false, m]) (Rat.divInt X (N : Int)) :=
  ⟨X, N, limR_mk (h.lim hX) ((isInt_nat h').lim (by rw [Int.natAbs_natCast]; exact hN)), by
    unfold ratOf
    rw [if_pos (by omega)]⟩

set_option maxRecDepth 100000 in
set_option maxHeartbeats 2000000 in
theorem rp_quot1 (s : ByteArray) (w : World) (hs : s.size ≤ 1000) (h0 : 0 < s.size) (h1 : Lib.indexByte s.data.toList 46 = -1) (k : Nat) (h2 : Lib.indexByte s.data.toList 47 = k) (hk : k < s.size) (hn : intB (s.extract 0 k) = false) (bd : Bool) (hd : isNumB (s.extract (k + 1) s.size) = bd) :
    Calls Tryz.prog 40 #[.string s] w fun e w' => RatOfPost w w' e 0 false := by
  have hsd : decide ((1000 : Int) < (s.size : Int)) = false := decide_eq_false (by omega)
  have hsi : (s.size : Int) ≤ 1000 := by omega
  have g0 : ((s.size : Int) == 0) = false := by rw [beq_eq_false_iff_ne]; omega
  have e1 : (s.extract 0 k).size ≤ 1000 := by rw [ByteArray.size_extract]; omega
  have e2 : (s.extract (k + 1) s.size).size ≤ 1001 := by rw [ByteArray.size_extract]; omega
  have HA := fun w => Lib.hid (rparseI_is (s.extract 0 k) w false e1 hn)
  have HC := fun w => Lib.hid (rparse_isB (s.extract (k + 1) s.size) w bd e2 hd)
  generalize intV (s.extract 0 k) = X at *
  generalize numV (s.extract (k + 1) s.size) = N at *
  clear hn hd e1 e2
  go_enter Tryz.func40, Tryz.ntmps40
  go_wp2_with fail
  refine Calls.mono (find_is s _ 46 _ _ hs rfl h1) ?_
  rintro e w0 ⟨rfl, rfl⟩
  clear h1
  go_wp2_with fail
  refine Calls.mono (find_is s _ 47 _ _ hs rfl h2) ?_
  rintro e w0 ⟨rfl, rfl⟩
  clear h2
  go_wp2_with fail
  refine Calls.mono ((HA _).out) ?_
  rintro e w1 ⟨v, rfl, h, hb⟩
  obtain ⟨b1, A1, n1, c1, rfl, -, -, h⟩ := h.form
  have hB := bun (hb)
  have Kr_1 := Lib.hid (show Blk w1 (w.heap.size) 26 #[.bool false, .slice none 0 0, .bool false, .slice none 0 0] from (Blk.new _ _ (by simp) _ _).below hb)
  have n_1 := Lib.hid (h)
  have HB_1 := Lib.hid (hB)
  have hs_1 : w.heap.size ≤ w1.heap.size := HB_1.out.size
  have hz_1 : w.heap.size + 1 ≤ w1.heap.size := (by have h := hb.size; (try simp at h); omega)
  clear hB hb 
  go_wp2_with fail
  refine Calls.mono ((HC _).out) ?_
  rintro e w2 ⟨v, rfl, h, hb⟩
  obtain ⟨A2, n2, c2, rfl, hz2, h⟩ := isNat_form h
  have hB := bun (hb)
  have n_2 := Lib.hid (n_1.out.below hB)
  have Kr_2 := Lib.hid (Kr_1.out.below hB)
  have Kn_2 := Lib.hid (show Blk w2 (w1.heap.size) 24 #[.bool b1, .slice A1 n1 c1] from (Blk.new _ _ (by simp) _ _).below hb)
  have d_2 := Lib.hid (h)
  have HB_2 := Lib.hid (below_trans HB_1.out hB)
  have hs_2 : w.heap.size ≤ w2.heap.size := HB_2.out.size
  have hz_2 : w1.heap.size + 1 ≤ w2.heap.size := (by have h := hb.size; (try simp at h); omega)
  clear hB hb n_1 Kr_1 HB_1
  go_wp2_with fail
  refine Calls.mono (rzero_any _) ?_
  rintro e w3 ⟨v, rfl, h, hb⟩
  obtain ⟨b3, A3, n3, c3, d3, B3, m3, k3, rfl, -, -, -, h1, h2⟩ := h.form
  have hB := hb
  have n_3 := Lib.hid (n_2.out.below hB)
  have d_3 := Lib.hid (d_2.out.below hB)
  have Kr_3 := Lib.hid (Kr_2.out.below hB)
  have Kn_3 := Lib.hid (Kn_2.out.below hB)
  have z_3 := Lib.hid (h1)
  have z2_3 := Lib.hid (h2)
  have HB_3 := Lib.hid (below_trans HB_2.out hB)
  have hs_3 : w.heap.size ≤ w3.heap.size := HB_3.out.size
  have hz_3 : w2.heap.size + 0 ≤ w3.heap.size := (by have h := hb.size; (try simp at h); omega)
  clear hB hb n_2 d_2 Kr_2 Kn_2 HB_2
  obtain ⟨p10, p11, p12, p13, l1⟩ := Kr_3.out.use4
  obtain ⟨r10, r11, r12, r13⟩ := Kr_3.out.into4
  go_wp2
  obtain ⟨WF, hWF⟩ : ∃ W, W = ((((w3.setCell ⟨w.heap.size, 0, none⟩ (.bool b3)).setCell ⟨w.heap.size, 1, none⟩ (.slice A3 n3 c3)).setCell ⟨w.heap.size, 2, none⟩ (.bool d3)).setCell ⟨w.heap.size, 3, none⟩ (.slice B3 m3 k3)) := ⟨_, rfl⟩
  rw [← hWF]
  have kq : Blk WF (w.heap.size) 26 #[.bool b3, .slice A3 n3 c3, .bool d3, .slice B3 m3 k3] := by rw [hWF]; exact Kr_3.out.own4
  have hBF : Below w.heap.size w WF := by rw [hWF]; exact Below.set4 (HB_3.out) (by first | omega | (simp; omega) | simp)
  have f1 : IsInt WF (.agg #[.bool b3, .slice A3 n3 c3]) (0 : Rat).num := by rw [hWF]; exact z_3.out.other4 Kr_3.out nu nu nu nu
  have f2 : IsInt WF (.agg #[.bool d3, .slice B3 m3 k3]) ((0 : Rat).den : Int) := by rw [hWF]; exact z2_3.out.other4 Kr_3.out nu nu nu nu
  have HE : Hid (RatOfPost w WF (Ending.returned (.tuple #[.agg #[.bool b3, .slice A3 n3 c3, .bool d3, .slice B3 m3 k3], .bool false])) 0 false) := ⟨_, rfl, ⟨_, _, _, _, rfl, f1, f2⟩, hBF⟩
  obtain ⟨e0, e1, e2, e3⟩ := kq.cells4
  clear hWF
  exact bodyPost_ret (v := .tuple #[.agg #[.bool b3, .slice A3 n3 c3, .bool d3, .slice B3 m3 k3], .bool false]) (by simp [results, Tryz.results40, go_sem, e0, e1, e2, e3] <;> omega) rfl HE.out

set_option maxRecDepth 100000 in
set_option maxHeartbeats 2000000 in
theorem rp_quot2 (s : ByteArray) (w : World) (hs : s.size ≤ 1000) (h0 : 0 < s.size) (h1 : Lib.indexByte s.data.toList 46 = -1) (k : Nat) (h2 : Lib.indexByte s.data.toList 47 = k) (hk : k < s.size) (hn : intB (s.extract 0 k) = true) (hd : isNumB (s.extract (k + 1) s.size) = false) :
    Calls Tryz.prog 40 #[.string s] w fun e w' => RatOfPost w w' e 0 false := by
  have hsd : decide ((1000 : Int) < (s.size : Int)) = false := decide_eq_false (by omega)
  have hsi : (s.size : Int) ≤ 1000 := by omega
  have g0 : ((s.size : Int) == 0) = false := by rw [beq_eq_false_iff_ne]; omega
  have e1 : (s.extract 0 k).size ≤ 1000 := by rw [ByteArray.size_extract]; omega
  have e2 : (s.extract (k + 1) s.size).size ≤ 1001 := by rw [ByteArray.size_extract]; omega
  have HA := fun w => Lib.hid (rparseI_is (s.extract 0 k) w true e1 hn)
  have HC := fun w => Lib.hid (rparse_isB (s.extract (k + 1) s.size) w false e2 hd)
  generalize intV (s.extract 0 k) = X at *
  generalize numV (s.extract (k + 1) s.size) = N at *
  clear hn hd e1 e2
  go_enter Tryz.func40, Tryz.ntmps40
  go_wp2_with fail
  refine Calls.mono (find_is s _ 46 _ _ hs rfl h1) ?_
  rintro e w0 ⟨rfl, rfl⟩
  clear h1
  go_wp2_with fail
  refine Calls.mono (find_is s _ 47 _ _ hs rfl h2) ?_
  rintro e w0 ⟨rfl, rfl⟩
  clear h2
  go_wp2_with fail
  refine Calls.mono ((HA _).out) ?_
  rintro e w1 ⟨v, rfl, h, hb⟩
  obtain ⟨b1, A1, n1, c1, rfl, -, -, h⟩ := h.form
  have hB := bun (hb)
  have Kr_1 := Lib.hid (show Blk w1 (w.heap.size) 26 #[.bool false, .slice none 0 0, .bool false, .slice none 0 0] from (Blk.new _ _ (by simp) _ _).below hb)
  have n_1 := Lib.hid (h)
  have HB_1 := Lib.hid (hB)
  have hs_1 : w.heap.size ≤ w1.heap.size := HB_1.out.size
  have hz_1 : w.heap.size + 1 ≤ w1.heap.size := (by have h := hb.size; (try simp at h); omega)
  clear hB hb 
  go_wp2_with fail
  refine Calls.mono ((HC _).out) ?_
  rintro e w2 ⟨v, rfl, h, hb⟩
  obtain ⟨A2, n2, c2, rfl, hz2, h⟩ := isNat_form h
  have hB := bun (hb)
  have n_2 := Lib.hid (n_1.out.below hB)
  have Kr_2 := Lib.hid (Kr_1.out.below hB)
  have Kn_2 := Lib.hid (show Blk w2 (w1.heap.size) 24 #[.bool b1, .slice A1 n1 c1] from (Blk.new _ _ (by simp) _ _).below hb)
  have d_2 := Lib.hid (h)
  have HB_2 := Lib.hid (below_trans HB_1.out hB)
  have hs_2 : w.heap.size ≤ w2.heap.size := HB_2.out.size
  have hz_2 : w1.heap.size + 1 ≤ w2.heap.size := (by have h := hb.size; (try simp at h); omega)
  clear hB hb n_1 Kr_1 HB_1
  go_wp2_with fail
  refine Calls.mono (rzero_any _) ?_
  rintro e w3 ⟨v, rfl, h, hb⟩
  obtain ⟨b3, A3, n3, c3, d3, B3, m3, k3, rfl, -, -, -, h1, h2⟩ := h.form
  have hB := hb
  have n_3 := Lib.hid (n_2.out.below hB)
  have d_3 := Lib.hid (d_2.out.below hB)
  have Kr_3 := Lib.hid (Kr_2.out.below hB)
  have Kn_3 := Lib.hid (Kn_2.out.below hB)
  have z_3 := Lib.hid (h1)
  have z2_3 := Lib.hid (h2)
  have HB_3 := Lib.hid (below_trans HB_2.out hB)
  have hs_3 : w.heap.size ≤ w3.heap.size := HB_3.out.size
  have hz_3 : w2.heap.size + 0 ≤ w3.heap.size := (by have h := hb.size; (try simp at h); omega)
  clear hB hb n_2 d_2 Kr_2 Kn_2 HB_2
  obtain ⟨p10, p11, p12, p13, l1⟩ := Kr_3.out.use4
  obtain ⟨r10, r11, r12, r13⟩ := Kr_3.out.into4
  go_wp2
  obtain ⟨WF, hWF⟩ : ∃ W, W = ((((w3.setCell ⟨w.heap.size, 0, none⟩ (.bool b3)).setCell ⟨w.heap.size, 1, none⟩ (.slice A3 n3 c3)).setCell ⟨w.heap.size, 2, none⟩ (.bool d3)).setCell ⟨w.heap.size, 3, none⟩ (.slice B3 m3 k3)) := ⟨_, rfl⟩
  rw [← hWF]
  have kq : Blk WF (w.heap.size) 26 #[.bool b3, .slice A3 n3 c3, .bool d3, .slice B3 m3 k3] := by rw [hWF]; exact Kr_3.out.own4
  have hBF : Below w.heap.size w WF := by rw [hWF]; exact Below.set4 (HB_3.out) (by first | omega | (simp; omega) | simp)
  have f1 : IsInt WF (.agg #[.bool b3, .slice A3 n3 c3]) (0 : Rat).num := by rw [hWF]; exact z_3.out.other4 Kr_3.out nu nu nu nu
  have f2 : IsInt WF (.agg #[.bool d3, .slice B3 m3 k3]) ((0 : Rat).den : Int) := by rw [hWF]; exact z2_3.out.other4 Kr_3.out nu nu nu nu
  have HE : Hid (RatOfPost w WF (Ending.returned (.tuple #[.agg #[.bool b3, .slice A3 n3 c3, .bool d3, .slice B3 m3 k3], .bool false])) 0 false) := ⟨_, rfl, ⟨_, _, _, _, rfl, f1, f2⟩, hBF⟩
  obtain ⟨e0, e1, e2, e3⟩ := kq.cells4
  clear hWF
  exact bodyPost_ret (v := .tuple #[.agg #[.bool b3, .slice A3 n3 c3, .bool d3, .slice B3 m3 k3], .bool false]) (by simp [results, Tryz.results40, go_sem, e0, e1, e2, e3] <;> omega) rfl HE.out

set_option maxRecDepth 100000 in
set_option maxHeartbeats 2000000 in
theorem rp_quot3 (s : ByteArray) (w : World) (hs : s.size ≤ 1000) (h0 : 0 < s.size) (h1 : Lib.indexByte s.data.toList 46 = -1) (k : Nat) (h2 : Lib.indexByte s.data.toList 47 = k) (hk : k < s.size) (hn : intB (s.extract 0 k) = true) (hd : isNumB (s.extract (k + 1) s.size) = true) (h3 : numV (s.extract (k + 1) s.size) = 0) :
    Calls Tryz.prog 40 #[.string s] w fun e w' => RatOfPost w w' e 0 false := by
  have hsd : decide ((1000 : Int) < (s.size : Int)) = false := decide_eq_false (by omega)
  have hsi : (s.size : Int) ≤ 1000 := by omega
  have g0 : ((s.size : Int) == 0) = false := by rw [beq_eq_false_iff_ne]; omega
  have e1 : (s.extract 0 k).size ≤ 1000 := by rw [ByteArray.size_extract]; omega
  have e2 : (s.extract (k + 1) s.size).size ≤ 1001 := by rw [ByteArray.size_extract]; omega
  have HA := fun w => Lib.hid (rparseI_is (s.extract 0 k) w true e1 hn)
  have HC := fun w => Lib.hid (rparse_isB (s.extract (k + 1) s.size) w true e2 hd)
  generalize intV (s.extract 0 k) = X at *
  generalize numV (s.extract (k + 1) s.size) = N at *
  have H3 := Lib.hid h3
  clear h3
  clear hn hd e1 e2
  go_enter Tryz.func40, Tryz.ntmps40
  go_wp2_with fail
  refine Calls.mono (find_is s _ 46 _ _ hs rfl h1) ?_
  rintro e w0 ⟨rfl, rfl⟩
  clear h1
  go_wp2_with fail
  refine Calls.mono (find_is s _ 47 _ _ hs rfl h2) ?_
  rintro e w0 ⟨rfl, rfl⟩
  clear h2
  go_wp2_with fail
  refine Calls.mono ((HA _).out) ?_
  rintro e w1 ⟨v, rfl, h, hb⟩
  obtain ⟨b1, A1, n1, c1, rfl, -, -, h⟩ := h.form
  have hB := bun (hb)
  have Kr_1 := Lib.hid (show Blk w1 (w.heap.size) 26 #[.bool false, .slice none 0 0, .bool false, .slice none 0 0] from (Blk.new _ _ (by simp) _ _).below hb)
  have n_1 := Lib.hid (h)
  have HB_1 := Lib.hid (hB)
  have hs_1 : w.heap.size ≤ w1.heap.size := HB_1.out.size
  have hz_1 : w.heap.size + 1 ≤ w1.heap.size := (by have h := hb.size; (try simp at h); omega)
  clear hB hb 
  go_wp2_with fail
  refine Calls.mono ((HC _).out) ?_
  rintro e w2 ⟨v, rfl, h, hb⟩
  obtain ⟨A2, n2, c2, rfl, hz2, h⟩ := isNat_form h
  have hl := len_zero hz2 H3.out
  have hB := bun (hb)
  have n_2 := Lib.hid (n_1.out.below hB)
  have Kr_2 := Lib.hid (Kr_1.out.below hB)
  have Kn_2 := Lib.hid (show Blk w2 (w1.heap.size) 24 #[.bool b1, .slice A1 n1 c1] from (Blk.new _ _ (by simp) _ _).below hb)
  have d_2 := Lib.hid (h)
  have HB_2 := Lib.hid (below_trans HB_1.out hB)
  have hs_2 : w.heap.size ≤ w2.heap.size := HB_2.out.size
  have hz_2 : w1.heap.size + 1 ≤ w2.heap.size := (by have h := hb.size; (try simp at h); omega)
  clear hB hb n_1 Kr_1 HB_1
  go_wp2_with fail
  refine Calls.mono (rzero_any _) ?_
  rintro e w3 ⟨v, rfl, h, hb⟩
  obtain ⟨b3, A3, n3, c3, d3, B3, m3, k3, rfl, -, -, -, h1, h2⟩ := h.form
  have hB := hb
  have n_3 := Lib.hid (n_2.out.below hB)
  have d_3 := Lib.hid (d_2.out.below hB)
  have Kr_3 := Lib.hid (Kr_2.out.below hB)
  have Kn_3 := Lib.hid (Kn_2.out.below hB)
  have z_3 := Lib.hid (h1)
  have z2_3 := Lib.hid (h2)
  have HB_3 := Lib.hid (below_trans HB_2.out hB)
  have hs_3 : w.heap.size ≤ w3.heap.size := HB_3.out.size
  have hz_3 : w2.heap.size + 0 ≤ w3.heap.size := (by have h := hb.size; (try simp at h); omega)
  clear hB hb n_2 d_2 Kr_2 Kn_2 HB_2
  obtain ⟨p10, p11, p12, p13, l1⟩ := Kr_3.out.use4
  obtain ⟨r10, r11, r12, r13⟩ := Kr_3.out.into4
  go_wp2
  obtain ⟨WF, hWF⟩ : ∃ W, W = ((((w3.setCell ⟨w.heap.size, 0, none⟩ (.bool b3)).setCell ⟨w.heap.size, 1, none⟩ (.slice A3 n3 c3)).setCell ⟨w.heap.size, 2, none⟩ (.bool d3)).setCell ⟨w.heap.size, 3, none⟩ (.slice B3 m3 k3)) := ⟨_, rfl⟩
  rw [← hWF]
  have kq : Blk WF (w.heap.size) 26 #[.bool b3, .slice A3 n3 c3, .bool d3, .slice B3 m3 k3] := by rw [hWF]; exact Kr_3.out.own4
  have hBF : Below w.heap.size w WF := by rw [hWF]; exact Below.set4 (HB_3.out) (by first | omega | (simp; omega) | simp)
  have f1 : IsInt WF (.agg #[.bool b3, .slice A3 n3 c3]) (0 : Rat).num := by rw [hWF]; exact z_3.out.other4 Kr_3.out nu nu nu nu
  have f2 : IsInt WF (.agg #[.bool d3, .slice B3 m3 k3]) ((0 : Rat).den : Int) := by rw [hWF]; exact z2_3.out.other4 Kr_3.out nu nu nu nu
  have HE : Hid (RatOfPost w WF (Ending.returned (.tuple #[.agg #[.bool b3, .slice A3 n3 c3, .bool d3, .slice B3 m3 k3], .bool false])) 0 false) := ⟨_, rfl, ⟨_, _, _, _, rfl, f1, f2⟩, hBF⟩
  obtain ⟨e0, e1, e2, e3⟩ := kq.cells4
  clear hWF
  exact bodyPost_ret (v := .tuple #[.agg #[.bool b3, .slice A3 n3 c3, .bool d3, .slice B3 m3 k3], .bool false]) (by simp [results, Tryz.results40, go_sem, e0, e1, e2, e3] <;> omega) rfl HE.out

set_option maxRecDepth 100000 in
set_option maxHeartbeats 2000000 in
theorem rp_quoty (s : ByteArray) (w : World) (hs : s.size ≤ 1000) (h0 : 0 < s.size) (h1 : Lib.indexByte s.data.toList 46 = -1) (k : Nat) (h2 : Lib.indexByte s.data.toList 47 = k) (hk : k < s.size) (hn : intB (s.extract 0 k) = true) (hd : isNumB (s.extract (k + 1) s.size) = true) (h3 : 0 < numV (s.extract (k + 1) s.size)) (K : Nat) (hsK : s.size ≤ K) (hK : K ≤ 1000) :
    Calls Tryz.prog 40 #[.string s] w fun e w' => RatOfPost w w' e (Rat.divInt (intV (s.extract 0 k)) (numV (s.extract (k + 1) s.size) : Int)) true := by
  have hsd : decide ((1000 : Int) < (s.size : Int)) = false := decide_eq_false (by omega)
  have hsi : (s.size : Int) ≤ 1000 := by omega
  have g0 : ((s.size : Int) == 0) = false := by rw [beq_eq_false_iff_ne]; omega
  have e1 : (s.extract 0 k).size ≤ 1000 := by rw [ByteArray.size_extract]; omega
  have e2 : (s.extract (k + 1) s.size).size ≤ 1001 := by rw [ByteArray.size_extract]; omega
  have BX : Hid ((intV (s.extract 0 k)).natAbs < 4294967296 ^ K) := intV_limD (by rw [ByteArray.size_extract]; omega)
  have BD : Hid (numV (s.extract (k + 1) s.size) < 4294967296 ^ K) := numV_limD (by rw [ByteArray.size_extract]; omega)
  have HA := fun w => Lib.hid (rparseI_is (s.extract 0 k) w true e1 hn)
  have HC := fun w => Lib.hid (rparse_isB (s.extract (k + 1) s.size) w true e2 hd)
  generalize intV (s.extract 0 k) = X at *
  generalize numV (s.extract (k + 1) s.size) = N at *
  obtain ⟨Q, hQ⟩ : ∃ Q, Rat.divInt X (N : Int) = Q := ⟨_, rfl⟩
  rw [hQ]
  have HQ := Lib.hid hQ
  have H3 := Lib.hid h3
  have HKK := Lib.hid hK
  clear hQ hK hsK h3
  clear hn hd e1 e2
  go_enter Tryz.func40, Tryz.ntmps40
  go_wp2_with fail
  refine Calls.mono (find_is s _ 46 _ _ hs rfl h1) ?_
  rintro e w0 ⟨rfl, rfl⟩
  clear h1
  go_wp2_with fail
  refine Calls.mono (find_is s _ 47 _ _ hs rfl h2) ?_
  rintro e w0 ⟨rfl, rfl⟩
  clear h2
  go_wp2_with fail
  refine Calls.mono ((HA _).out) ?_
  rintro e w1 ⟨v, rfl, h, hb⟩
  obtain ⟨b1, A1, n1, c1, rfl, -, -, h⟩ := h.form
  have hB := bun (hb)
  have Kr_1 := Lib.hid (show Blk w1 (w.heap.size) 26 #[.bool false, .slice none 0 0, .bool false, .slice none 0 0] from (Blk.new _ _ (by simp) _ _).below hb)
  have n_1 := Lib.hid (h)
  have HB_1 := Lib.hid (hB)
  have hs_1 : w.heap.size ≤ w1.heap.size := HB_1.out.size
  have hz_1 : w.heap.size + 1 ≤ w1.heap.size := (by have h := hb.size; (try simp at h); omega)
  clear hB hb 
  go_wp2_with fail
  refine Calls.mono ((HC _).out) ?_
  rintro e w2 ⟨v, rfl, h, hb⟩
  obtain ⟨A2, n2, c2, rfl, hz2, h⟩ := isNat_form h
  have hl := len_some hz2 H3.out
  have hB := bun (hb)
  have n_2 := Lib.hid (n_1.out.below hB)
  have Kr_2 := Lib.hid (Kr_1.out.below hB)
  have Kn_2 := Lib.hid (show Blk w2 (w1.heap.size) 24 #[.bool b1, .slice A1 n1 c1] from (Blk.new _ _ (by simp) _ _).below hb)
  have d_2 := Lib.hid (h)
  have HB_2 := Lib.hid (below_trans HB_1.out hB)
  have hs_2 : w.heap.size ≤ w2.heap.size := HB_2.out.size
  have hz_2 : w1.heap.size + 1 ≤ w2.heap.size := (by have h := hb.size; (try simp at h); omega)
  clear hB hb n_1 Kr_1 HB_1
  obtain ⟨p10, p11, l1⟩ := Kn_2.out.use2
  go_wp2_with fail
  refine Calls.mono (r_plain (lq_quot n_2.out BX.out d_2.out BD.out H3.out) (by have := HKK.out; omega)) ?_
  rintro e w3 ⟨v, rfl, h, hb⟩
  rw [HQ.out] at h
  obtain ⟨b3, A3, n3, c3, d3, B3, m3, k3, rfl, -, -, -, h1, h2⟩ := h.form
  have hB := hb
  have Kr_3 := Lib.hid (Kr_2.out.below hB)
  have Kn_3 := Lib.hid (Kn_2.out.below hB)
  have z_3 := Lib.hid (h1)
  have z2_3 := Lib.hid (h2)
  have HB_3 := Lib.hid (below_trans HB_2.out hB)
  have hs_3 : w.heap.size ≤ w3.heap.size := HB_3.out.size
  have hz_3 : w2.heap.size + 0 ≤ w3.heap.size := (by have h := hb.size; (try simp at h); omega)
  clear hB hb n_2 d_2 Kr_2 Kn_2 HB_2 p10 p11 l1
  obtain ⟨p20, p21, p22, p23, l2⟩ := Kr_3.out.use4
  obtain ⟨r20, r21, r22, r23⟩ := Kr_3.out.into4
  go_wp2
  obtain ⟨WF, hWF⟩ : ∃ W, W = ((((w3.setCell ⟨w.heap.size, 0, none⟩ (.bool b3)).setCell ⟨w.heap.size, 1, none⟩ (.slice A3 n3 c3)).setCell ⟨w.heap.size, 2, none⟩ (.bool d3)).setCell ⟨w.heap.size, 3, none⟩ (.slice B3 m3 k3)) := ⟨_, rfl⟩
  rw [← hWF]
  have kq : Blk WF (w.heap.size) 26 #[.bool b3, .slice A3 n3 c3, .bool d3, .slice B3 m3 k3] := by rw [hWF]; exact Kr_3.out.own4
  have hBF : Below w.heap.size w WF := by rw [hWF]; exact Below.set4 (HB_3.out) (by first | omega | (simp; omega) | simp)
  have f1 : IsInt WF (.agg #[.bool b3, .slice A3 n3 c3]) Q.num := by rw [hWF]; exact z_3.out.other4 Kr_3.out nu nu nu nu
  have f2 : IsInt WF (.agg #[.bool d3, .slice B3 m3 k3]) (Q.den : Int) := by rw [hWF]; exact z2_3.out.other4 Kr_3.out nu nu nu nu
  have HE : Hid (RatOfPost w WF (Ending.returned (.tuple #[.agg #[.bool b3, .slice A3 n3 c3, .bool d3, .slice B3 m3 k3], .bool true])) Q true) := ⟨_, rfl, ⟨_, _, _, _, rfl, f1, f2⟩, hBF⟩
  obtain ⟨e0, e1, e2, e3⟩ := kq.cells4
  clear hWF
  exact bodyPost_ret (v := .tuple #[.agg #[.bool b3, .slice A3 n3 c3, .bool d3, .slice B3 m3 k3], .bool true]) (by simp [results, Tryz.results40, go_sem, e0, e1, e2, e3] <;> omega) rfl HE.out
end Go.Proofs.YtglcififcldchaaGreatDoor
