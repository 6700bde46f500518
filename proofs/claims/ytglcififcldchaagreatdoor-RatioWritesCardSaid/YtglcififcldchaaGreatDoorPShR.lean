/- Contracts of ratio: written and Parse, for what they call. -/
import Derived.Test.YtglcififcldchaaGreatDoorPRo
import Derived.Shelf.Strings.Builder1
import Derived.Shelf.Strings.Builder2
import Derived.Shelf.Small.Utf8
import Derived.Shelf.Small.Strs
import Derived.Shelf.Strings.BuilderF
import Derived.Shelf.Strings.Search1
import Derived.Shelf.Strings.Search2
import Derived.Shelf.Strings.Cut
import Derived.Shelf.LaysM
import Derived.Shelf.Strings.Shaped
import Derived.Shelf.Strings.Prefix
import Derived.Shelf.Strings.Runes
import Derived.Shelf.Strings.AsciiSet
import Derived.Shelf.Bits.Mul64
import Derived.Shelf.Strings.Repeat
import Derived.Shelf.Unicode.DecodeSlow
import Derived.Test.YtglcififcldchaaGreatDoorProg
namespace Go.Proofs.YtglcififcldchaaGreatDoor
open Go.RowKit
attribute [local go_sem ↓] Go.wp_at_zero Go.wp_at_succ
set_option linter.unusedVariables false

set_option maxRecDepth 100000 in
set_option maxHeartbeats 4000000 in
theorem written_q (s : ByteArray) (i K : Nat) (X Y : Int) (ok : Bool) (w : World) (hs : s.size ≤ 1000) (h1 : Lib.indexByte s.data.toList 47 = i) (hi : i < s.size) (HQ : ∀ w, Calls Tryz.prog 109 #[.string (s.extract 0 i), .string (s.extract (i + 1) s.size)] w fun e w' => WrPost K w w' e X Y ok) :
    Calls Tryz.prog 76 #[.string s] w fun e w' => WrPost K w w' e X Y ok := by
  have HC := fun w => Lib.hid (cut_yes s 47 i w h1 hi (by omega))
  have HQ := fun w => Lib.hid (HQ w)
  generalize s.extract 0 i = a at *
  generalize s.extract (i + 1) s.size = b at *
  clear h1 hi hs
  go_enter Tryz.func76, Tryz.ntmps76
  go_wp2_with fail
  refine Calls.mono ((HC _).out) ?_
  rintro e w1 ⟨rfl, hb⟩
  have hB := bun (hb)
  have Kr_1 := Lib.hid (show Blk w1 (w.heap.size) 26 #[.bool false, .slice none 0 0, .bool false, .slice none 0 0] from (Blk.new _ _ (by simp) _ _).below hb)
  have HB_1 := Lib.hid (hB)
  have hs_1 : w.heap.size ≤ w1.heap.size := HB_1.out.size
  have hz_1 : w.heap.size + 1 ≤ w1.heap.size := (by have h := hb.size; (try simp at h); omega)
  clear hB hb 
  go_wp2_with fail
  refine Calls.mono ((HQ _).out) ?_
  rintro e w2 ⟨v, rfl, h, hb⟩
  obtain ⟨b2, A2, n2, c2, d2, B2, m2, k2, rfl, h1, h2⟩ := h.form
  have hB := hb
  have Kr_2 := Lib.hid (Kr_1.out.below hB)
  have x_2 := Lib.hid (h1)
  have y_2 := Lib.hid (h2)
  have HB_2 := Lib.hid (below_trans HB_1.out hB)
  have hs_2 : w.heap.size ≤ w2.heap.size := HB_2.out.size
  have hz_2 : w1.heap.size + 0 ≤ w2.heap.size := (by have h := hb.size; (try simp at h); omega)
  clear hB hb Kr_1 HB_1
  obtain ⟨p10, p11, p12, p13, l1⟩ := Kr_2.out.use4
  obtain ⟨r10, r11, r12, r13⟩ := Kr_2.out.into4
  go_wp2
  obtain ⟨WF, hWF⟩ : ∃ W, W = ((((w2.setCell ⟨w.heap.size, 0, none⟩ (.bool b2)).setCell ⟨w.heap.size, 1, none⟩ (.slice A2 n2 c2)).setCell ⟨w.heap.size, 2, none⟩ (.bool d2)).setCell ⟨w.heap.size, 3, none⟩ (.slice B2 m2 k2)) := ⟨_, rfl⟩
  rw [← hWF]
  have kq : Blk WF (w.heap.size) 26 #[.bool b2, .slice A2 n2 c2, .bool d2, .slice B2 m2 k2] := by rw [hWF]; exact Kr_2.out.own4
  have hBF : Below w.heap.size w WF := by rw [hWF]; exact Below.set4 (HB_2.out) (by first | omega | (simp; omega) | simp)
  have f1 : LimI K WF (.agg #[.bool b2, .slice A2 n2 c2]) X := by rw [hWF]; exact x_2.out.other4 Kr_2.out nu nu nu nu
  have f2 : LimI K WF (.agg #[.bool d2, .slice B2 m2 k2]) Y := by rw [hWF]; exact y_2.out.other4 Kr_2.out nu nu nu nu
  have HE : Hid (WrPost K w WF (Ending.returned (.tuple #[.agg #[.bool b2, .slice A2 n2 c2, .bool d2, .slice B2 m2 k2], .bool ok])) X Y ok) := ⟨_, rfl, limR_mk f1 f2, hBF⟩
  obtain ⟨e0, e1, e2, e3⟩ := kq.cells4
  clear hWF
  exact bodyPost_ret (v := .tuple #[.agg #[.bool b2, .slice A2 n2 c2, .bool d2, .slice B2 m2 k2], .bool ok]) (by simp [results, Tryz.results76, go_sem, e0, e1, e2, e3] <;> omega) rfl HE.out

set_option maxRecDepth 100000 in
set_option maxHeartbeats 4000000 in
theorem written_d (s : ByteArray) (i K : Nat) (X Y : Int) (ok : Bool) (w : World) (hs : s.size ≤ 1000) (h0 : Lib.indexByte s.data.toList 47 = -1) (h1 : Lib.indexByte s.data.toList 46 = i) (hi : i < s.size) (HQ : ∀ w, Calls Tryz.prog 110 #[.string (s.extract 0 i), .string (s.extract (i + 1) s.size)] w fun e w' => WrPost K w w' e X Y ok) :
    Calls Tryz.prog 76 #[.string s] w fun e w' => WrPost K w w' e X Y ok := by
  have HN := fun w => Lib.hid (cut_no s 47 w h0)
  have HC := fun w => Lib.hid (cut_yes s 46 i w h1 hi (by omega))
  have HQ := fun w => Lib.hid (HQ w)
  generalize s.extract 0 i = a at *
  generalize s.extract (i + 1) s.size = b at *
  clear h0 h1 hi hs
  go_enter Tryz.func76, Tryz.ntmps76
  go_wp2_with fail
  refine Calls.mono ((HN _).out) ?_
  rintro e w1 ⟨rfl, hb⟩
  have hB := bun (hb)
  have Kr_1 := Lib.hid (show Blk w1 (w.heap.size) 26 #[.bool false, .slice none 0 0, .bool false, .slice none 0 0] from (Blk.new _ _ (by simp) _ _).below hb)
  have HB_1 := Lib.hid (hB)
  have hs_1 : w.heap.size ≤ w1.heap.size := HB_1.out.size
  have hz_1 : w.heap.size + 1 ≤ w1.heap.size := (by have h := hb.size; (try simp at h); omega)
  clear hB hb 
  go_wp2_with fail
  refine Calls.mono ((HC _).out) ?_
  rintro e w2 ⟨rfl, hb⟩
  have hB := hb
  have Kr_2 := Lib.hid (Kr_1.out.below hB)
  have HB_2 := Lib.hid (below_trans HB_1.out hB)
  have hs_2 : w.heap.size ≤ w2.heap.size := HB_2.out.size
  have hz_2 : w1.heap.size + 0 ≤ w2.heap.size := (by have h := hb.size; (try simp at h); omega)
  clear hB hb Kr_1 HB_1
  go_wp2_with fail
  refine Calls.mono ((HQ _).out) ?_
  rintro e w3 ⟨v, rfl, h, hb⟩
  obtain ⟨b3, A3, n3, c3, d3, B3, m3, k3, rfl, h1, h2⟩ := h.form
  have hB := hb
  have Kr_3 := Lib.hid (Kr_2.out.below hB)
  have x_3 := Lib.hid (h1)
  have y_3 := Lib.hid (h2)
  have HB_3 := Lib.hid (below_trans HB_2.out hB)
  have hs_3 : w.heap.size ≤ w3.heap.size := HB_3.out.size
  have hz_3 : w2.heap.size + 0 ≤ w3.heap.size := (by have h := hb.size; (try simp at h); omega)
  clear hB hb Kr_2 HB_2
  obtain ⟨p10, p11, p12, p13, l1⟩ := Kr_3.out.use4
  obtain ⟨r10, r11, r12, r13⟩ := Kr_3.out.into4
  go_wp2
  obtain ⟨WF, hWF⟩ : ∃ W, W = ((((w3.setCell ⟨w.heap.size, 0, none⟩ (.bool b3)).setCell ⟨w.heap.size, 1, none⟩ (.slice A3 n3 c3)).setCell ⟨w.heap.size, 2, none⟩ (.bool d3)).setCell ⟨w.heap.size, 3, none⟩ (.slice B3 m3 k3)) := ⟨_, rfl⟩
  rw [← hWF]
  have kq : Blk WF (w.heap.size) 26 #[.bool b3, .slice A3 n3 c3, .bool d3, .slice B3 m3 k3] := by rw [hWF]; exact Kr_3.out.own4
  have hBF : Below w.heap.size w WF := by rw [hWF]; exact Below.set4 (HB_3.out) (by first | omega | (simp; omega) | simp)
  have f1 : LimI K WF (.agg #[.bool b3, .slice A3 n3 c3]) X := by rw [hWF]; exact x_3.out.other4 Kr_3.out nu nu nu nu
  have f2 : LimI K WF (.agg #[.bool d3, .slice B3 m3 k3]) Y := by rw [hWF]; exact y_3.out.other4 Kr_3.out nu nu nu nu
  have HE : Hid (WrPost K w WF (Ending.returned (.tuple #[.agg #[.bool b3, .slice A3 n3 c3, .bool d3, .slice B3 m3 k3], .bool ok])) X Y ok) := ⟨_, rfl, limR_mk f1 f2, hBF⟩
  obtain ⟨e0, e1, e2, e3⟩ := kq.cells4
  clear hWF
  exact bodyPost_ret (v := .tuple #[.agg #[.bool b3, .slice A3 n3 c3, .bool d3, .slice B3 m3 k3], .bool ok]) (by simp [results, Tryz.results76, go_sem, e0, e1, e2, e3] <;> omega) rfl HE.out

set_option maxRecDepth 100000 in
set_option maxHeartbeats 4000000 in
theorem qparse_yes (s : ByteArray) (K : Nat) (X Y : Int) (w : World) (hs : s.size ≤ 1000) (hK : K ≤ 100000) (hY : 0 < Y) (HW : ∀ w, Calls Tryz.prog 76 #[.string s] w fun e w' => WrPost K w w' e X Y true) :
    Calls Tryz.prog 39 #[.string s] w fun e w' => RatOfPost w w' e (Rat.divInt X Y) true := by
  have HW := fun w => Lib.hid (HW w)
  have hs1 : ¬ (s.size : Int) > 1000 := by omega
  have HK := Lib.hid hK
  have HY := Lib.hid hY
  clear hK hY
  clear hs
  go_enter Tryz.func39, Tryz.ntmps39
  go_wp2_with fail
  refine Calls.mono ((HW _).out) ?_
  rintro e w1 ⟨v, rfl, h, hb⟩
  obtain ⟨b1, A1, n1, c1, d1, B1, m1, k1, rfl, h1, h2⟩ := h.form
  have hB := bun (hb)
  have Kr_1 := Lib.hid (show Blk w1 (w.heap.size) 26 #[.bool false, .slice none 0 0, .bool false, .slice none 0 0] from (Blk.new _ _ (by simp) _ _).below hb)
  have x_1 := Lib.hid (h1)
  have y_1 := Lib.hid (h2)
  have HB_1 := Lib.hid (hB)
  have hs_1 : w.heap.size ≤ w1.heap.size := HB_1.out.size
  have hz_1 : w.heap.size + 1 ≤ w1.heap.size := (by have h := hb.size; (try simp at h); omega)
  clear hB hb 
  go_wp2_with fail
  refine Calls.mono (p_lowest ⟨X, Y, limR_mk (x_1.out.alloc_ _) (y_1.out.alloc_ _), HY.out, rfl⟩ HK.out) ?_
  rintro e w2 ⟨v, rfl, h, hb⟩
  obtain ⟨b2, A2, n2, c2, d2, B2, m2, k2, rfl, -, -, -, h1, h2⟩ := h.form
  have hB := bun (hb)
  have Kr_2 := Lib.hid (Kr_1.out.below hB)
  have Ka_2 := Lib.hid (show Blk w2 (w1.heap.size) 26 #[.bool b1, .slice A1 n1 c1, .bool d1, .slice B1 m1 k1] from (Blk.new _ _ (by simp) _ _).below hb)
  have z_2 := Lib.hid (h1)
  have z2_2 := Lib.hid (h2)
  have HB_2 := Lib.hid (below_trans HB_1.out hB)
  have hs_2 : w.heap.size ≤ w2.heap.size := HB_2.out.size
  have hz_2 : w1.heap.size + 1 ≤ w2.heap.size := (by have h := hb.size; (try simp at h); omega)
  clear hB hb x_1 y_1 Kr_1 HB_1
  obtain ⟨p10, p11, p12, p13, l1⟩ := Kr_2.out.use4
  obtain ⟨r10, r11, r12, r13⟩ := Kr_2.out.into4
  go_wp2
  obtain ⟨WF, hWF⟩ : ∃ W, W = ((((w2.setCell ⟨w.heap.size, 0, none⟩ (.bool b2)).setCell ⟨w.heap.size, 1, none⟩ (.slice A2 n2 c2)).setCell ⟨w.heap.size, 2, none⟩ (.bool d2)).setCell ⟨w.heap.size, 3, none⟩ (.slice B2 m2 k2)) := ⟨_, rfl⟩
  rw [← hWF]
  have kq : Blk WF (w.heap.size) 26 #[.bool b2, .slice A2 n2 c2, .bool d2, .slice B2 m2 k2] := by rw [hWF]; exact Kr_2.out.own4
  have hBF : Below w.heap.size w WF := by rw [hWF]; exact Below.set4 (HB_2.out) (by first | omega | (simp; omega) | simp)
  have f1 : IsInt WF (.agg #[.bool b2, .slice A2 n2 c2]) (Rat.divInt X Y).num := by rw [hWF]; exact z_2.out.other4 Kr_2.out nu nu nu nu
  have f2 : IsInt WF (.agg #[.bool d2, .slice B2 m2 k2]) ((Rat.divInt X Y).den : Int) := by rw [hWF]; exact z2_2.out.other4 Kr_2.out nu nu nu nu
  have HE : Hid (RatOfPost w WF (Ending.returned (.tuple #[.agg #[.bool b2, .slice A2 n2 c2, .bool d2, .slice B2 m2 k2], .bool true])) (Rat.divInt X Y) true) := ⟨_, rfl, ⟨_, _, _, _, rfl, f1, f2⟩, hBF⟩
  obtain ⟨e0, e1, e2, e3⟩ := kq.cells4
  clear hWF
  exact bodyPost_ret (v := .tuple #[.agg #[.bool b2, .slice A2 n2 c2, .bool d2, .slice B2 m2 k2], .bool true]) (by simp [results, Tryz.results39, go_sem, e0, e1, e2, e3] <;> omega) rfl HE.out

set_option maxRecDepth 100000 in
set_option maxHeartbeats 4000000 in
theorem qparse_no (s : ByteArray) (K : Nat) (X Y : Int) (w : World) (hs : s.size ≤ 1000) (HW : ∀ w, Calls Tryz.prog 76 #[.string s] w fun e w' => WrPost K w w' e X Y false) :
    Calls Tryz.prog 39 #[.string s] w fun e w' => RatOfPost w w' e 0 false := by
  have HW := fun w => Lib.hid (HW w)
  have hs1 : ¬ (s.size : Int) > 1000 := by omega
  clear hs
  go_enter Tryz.func39, Tryz.ntmps39
  go_wp2_with fail
  refine Calls.mono ((HW _).out) ?_
  rintro e w1 ⟨v, rfl, h, hb⟩
  obtain ⟨b1, A1, n1, c1, d1, B1, m1, k1, rfl, h1, h2⟩ := h.form
  have hB := bun (hb)
  have Kr_1 := Lib.hid (show Blk w1 (w.heap.size) 26 #[.bool false, .slice none 0 0, .bool false, .slice none 0 0] from (Blk.new _ _ (by simp) _ _).below hb)
  have x_1 := Lib.hid (h1)
  have y_1 := Lib.hid (h2)
  have HB_1 := Lib.hid (hB)
  have hs_1 : w.heap.size ≤ w1.heap.size := HB_1.out.size
  have hz_1 : w.heap.size + 1 ≤ w1.heap.size := (by have h := hb.size; (try simp at h); omega)
  clear hB hb 
  go_wp2_with fail
  refine Calls.mono (zero_any _) ?_
  rintro e w2 ⟨v, rfl, h, hb⟩
  obtain ⟨b2, A2, n2, c2, d2, B2, m2, k2, rfl, -, -, -, h1, h2⟩ := h.form
  have hB := bun (hb)
  have Kr_2 := Lib.hid (Kr_1.out.below hB)
  have Ka_2 := Lib.hid (show Blk w2 (w1.heap.size) 26 #[.bool b1, .slice A1 n1 c1, .bool d1, .slice B1 m1 k1] from (Blk.new _ _ (by simp) _ _).below hb)
  have z_2 := Lib.hid (h1)
  have z2_2 := Lib.hid (h2)
  have HB_2 := Lib.hid (below_trans HB_1.out hB)
  have hs_2 : w.heap.size ≤ w2.heap.size := HB_2.out.size
  have hz_2 : w1.heap.size + 1 ≤ w2.heap.size := (by have h := hb.size; (try simp at h); omega)
  clear hB hb x_1 y_1 Kr_1 HB_1
  obtain ⟨p10, p11, p12, p13, l1⟩ := Kr_2.out.use4
  obtain ⟨r10, r11, r12, r13⟩ := Kr_2.out.into4
  go_wp2
  obtain ⟨WF, hWF⟩ : ∃ W, W = ((((w2.setCell ⟨w.heap.size, 0, none⟩ (.bool b2)).setCell ⟨w.heap.size, 1, none⟩ (.slice A2 n2 c2)).setCell ⟨w.heap.size, 2, none⟩ (.bool d2)).setCell ⟨w.heap.size, 3, none⟩ (.slice B2 m2 k2)) := ⟨_, rfl⟩
  rw [← hWF]
  have kq : Blk WF (w.heap.size) 26 #[.bool b2, .slice A2 n2 c2, .bool d2, .slice B2 m2 k2] := by rw [hWF]; exact Kr_2.out.own4
  have hBF : Below w.heap.size w WF := by rw [hWF]; exact Below.set4 (HB_2.out) (by first | omega | (simp; omega) | simp)
  have f1 : IsInt WF (.agg #[.bool b2, .slice A2 n2 c2]) (0 : Rat).num := by rw [hWF]; exact z_2.out.other4 Kr_2.out nu nu nu nu
  have f2 : IsInt WF (.agg #[.bool d2, .slice B2 m2 k2]) ((0 : Rat).den : Int) := by rw [hWF]; exact z2_2.out.other4 Kr_2.out nu nu nu nu
  have HE : Hid (RatOfPost w WF (Ending.returned (.tuple #[.agg #[.bool b2, .slice A2 n2 c2, .bool d2, .slice B2 m2 k2], .bool false])) 0 false) := ⟨_, rfl, ⟨_, _, _, _, rfl, f1, f2⟩, hBF⟩
  obtain ⟨e0, e1, e2, e3⟩ := kq.cells4
  clear hWF
  exact bodyPost_ret (v := .tuple #[.agg #[.bool b2, .slice A2 n2 c2, .bool d2, .slice B2 m2 k2], .bool false]) (by simp [results, Tryz.results39, go_sem, e0, e1, e2, e3] <;> omega) rfl HE.out

/- What is parsed when the packages wake. -/
theorem num_dec {s : ByteArray} (h : IsNum s) {N : Nat} (hN : dval (bt s) s.size = N) : isNumB s = true ∧ numV s = N := by
  rw [← hN]; exact num_yes h
theorem isNum_chk {s : ByteArray} (h : (decide (0 < s.size) && decide (s.size ≤ 40000) && !(decide (bt s 0 = 48) && decide (1 < s.size)) && (List.range s.size).all fun i => decide (48 ≤ bt s i) && decide (bt s i ≤ 57)) = true) : IsNum s := by
  simp only [Bool.and_eq_true, Bool.not_eq_true', decide_eq_true_eq, List.all_eq_true, List.mem_range, Bool.and_eq_false_iff, decide_eq_false_iff_not] at h
  obtain ⟨⟨⟨h1, h2⟩, h3⟩, h4⟩ := h
  refine ⟨h1, h2, ?_, fun i hi => h4 i hi⟩
  rintro ⟨a, b⟩
  rcases h3 with h3 | h3
  · exact h3 a
  · exact h3 b
theorem n1 : isNumB ⟨#[49]⟩ = true ∧ numV ⟨#[49]⟩ = 1 := num_dec (isNum_chk (by decide)) (by decide)
theorem n7 : isNumB ⟨#[55]⟩ = true ∧ numV ⟨#[55]⟩ = 7 := num_dec (isNum_chk (by decide)) (by decide)
theorem n14 : isNumB ⟨#[49, 52]⟩ = true ∧ numV ⟨#[49, 52]⟩ = 14 := num_dec (isNum_chk (by decide)) (by decide)
theorem n50 : isNumB ⟨#[53, 48]⟩ = true ∧ numV ⟨#[53, 48]⟩ = 50 := num_dec (isNum_chk (by decide)) (by decide)
theorem n100 : isNumB (⟨#[49]⟩ ++ zeros 2) = true ∧ numV (⟨#[49]⟩ ++ zeros 2) = 10 ^ 2 := num_dec (isNum_chk (by decide)) (by decide)
theorem minus_yes : minusB ⟨#[45, 49]⟩ = true := (minusB_iff _).2 ⟨by decide, by decide⟩
theorem minus_no : minusB ⟨#[55]⟩ = false := by
  cases h : minusB ⟨#[55]⟩
  · rfl
  · exact absurd ((minusB_iff _).1 h).2 (by decide)
theorem dig_yes : digitsOf ⟨#[45, 49]⟩ = ⟨#[49]⟩ := by unfold digitsOf; rw [if_pos minus_yes]; rfl
theorem dig_no : digitsOf ⟨#[55]⟩ = ⟨#[55]⟩ := by unfold digitsOf; rw [if_neg (by rw [minus_no]; decide)]
theorem int7 : intB ⟨#[55]⟩ = true ∧ intV ⟨#[55]⟩ = 7 := by
  unfold intB intV
  rw [minus_no, dig_no, n7.1, n7.2]
  exact ⟨rfl, rfl⟩
theorem parse_b (w : World) : Calls Tryz.prog 39 #[.string ⟨#[45, 49, 46, 53, 48]⟩] w fun e w' => RatOfPost w w' e (Rat.divInt (-3) 2) true := by
  have hq : Rat.divInt (-3) 2 = Rat.divInt (-150) 100 := by decide
  rw [hq]
  refine qparse_yes _ (3 + 3 + 1) (-150) 100 w (by decide) (by omega) (by omega) fun w => ?_
  refine written_d _ 2 (3 + 3 + 1) (-150) 100 true w (by decide) (by rfl) (by rfl) (by decide) fun w => ?_
  have h := dec_yes ⟨#[45, 49]⟩ ⟨#[53, 48]⟩ 2 50 3 w (by decide) (by decide) (by omega) (by omega) (by rw [dig_yes]; exact n1.1) (fun w => by
    have := places_some ⟨#[53, 48]⟩ w (by decide) (by decide) (by rw [show tailZ ⟨#[53, 48]⟩ = ⟨#[53, 48]⟩ from rfl]; exact n50.1)
    rw [show tailZ ⟨#[53, 48]⟩ = ⟨#[53, 48]⟩ from rfl, n50.2] at this
    exact this) (by decide) (fun w => repeat_few 2 w (by omega) (by omega)) n100.1 n100.2
  rw [dig_yes, n1.2, minus_yes] at h
  exact h
theorem parse_c (w : World) : Calls Tryz.prog 39 #[.string ⟨#[55, 47, 49, 52]⟩] w fun e w' => RatOfPost w w' e (Rat.divInt 1 2) true := by
  have hq : Rat.divInt 1 2 = Rat.divInt 7 14 := by decide
  rw [hq]
  refine qparse_yes _ 2 7 14 w (by decide) (by omega) (by omega) fun w => ?_
  refine written_q _ 1 2 7 14 true w (by decide) (by rfl) (by decide) fun w => ?_
  have h := quot_yes ⟨#[55]⟩ ⟨#[49, 52]⟩ 2 w (by decide) (by decide) (by omega) int7.1 n14.1 (by rw [n14.2]; omega)
  rw [int7.2, n14.2] at h
  exact h
end Go.Proofs.YtglcififcldchaaGreatDoor

/- Decimal texts: what they are, and what ratio.Parse tells of them. -/
namespace Go.Proofs.YtglcififcldchaaGreatDoor
open Go.RowKit
attribute [local go_sem ↓] Go.wp_at_zero Go.wp_at_succ
set_option linter.unusedVariables false

theorem index_none : ∀ (l : List UInt8) (c : UInt8), c ∉ l → Lib.indexByte l c = -1
  | [], _, _ => rfl
  | b :: l, c, h => by
    rw [List.mem_cons, not_or] at h
    have hb : (b == c) = false := by rw [beq_eq_false_iff_ne]; exact fun e => h.1 e.symm
    rw [Lib.indexByte, hb, index_none l c h.2]
    rfl
theorem index_at (r : List UInt8) : ∀ (l : List UInt8) (c : UInt8), c ∉ l → Lib.indexByte (l ++ c :: r) c = l.length
  | [], c, _ => by rw [List.nil_append, Lib.indexByte]; simp
  | b :: l, c, h => by
    rw [List.mem_cons, not_or] at h
    have hb : (b == c) = false := by rw [beq_eq_false_iff_ne]; exact fun e => h.1 e.symm
    have h1 : ((l.length : Int) == -1) = false := by rw [beq_eq_false_iff_ne]; omega
    rw [List.cons_append, Lib.indexByte, hb, index_at r l c h.2, h1]
    simp
/-- The value of decimal digits. -/
def lv : List UInt8 → Nat
  | [] => 0
  | c :: l => (c.toNat - 48) * 10 ^ l.length + lv l
def Dg (l : List UInt8) : Prop := ∀ c ∈ l, 48 ≤ c.toNat ∧ c.toNat ≤ 57
theorem dval_lv : ∀ l : List UInt8, dval (fun i => (l.getD i 0).toNat) l.length = lv l
  | [] => rfl
  | c :: l => by
    have h : dval (fun j => ((c :: l).getD (1 + j) 0).toNat) l.length = lv l := by
      rw [← dval_lv l]
      refine dval_congr _ fun i _ => ?_
      rw [Nat.add_comm]
      rfl
    rw [List.length_cons, Nat.add_comm, dval_add, lv, h]
    simp [dval]
theorem bt_lv (s : ByteArray) : dval (bt s) s.size = lv s.data.toList := by
  rw [← dval_lv, ← Lib.size_eq]
  rfl
theorem lv_lt : ∀ {l : List UInt8}, Dg l → lv l < 10 ^ l.length
  | [], _ => by simp [lv]
  | c :: l, h => by
    have h1 := lv_lt (l := l) fun x hx => h x (List.mem_cons_of_mem _ hx)
    have h2 := (h c (List.mem_cons_self ..)).2
    have h3 : (c.toNat - 48) * 10 ^ l.length ≤ 9 * 10 ^ l.length := Nat.mul_le_mul_right _ (by omega)
    rw [lv, List.length_cons, Nat.pow_succ]
    omega
theorem lv_trim : ∀ l : List UInt8, lv (l.dropWhile (· == 48)) = lv l
  | [] => rfl
  | c :: l => by
    rw [List.dropWhile_cons]
    by_cases h : (c == 48) = true
    · rw [if_pos h, lv_trim l, lv]
      rw [beq_iff_eq] at h
      subst h
      simp
    · rw [if_neg h]
theorem trim_head : ∀ (l : List UInt8) {c : UInt8} {r : List UInt8}, l.dropWhile (· == 48) = c :: r → c ≠ 48
  | [], _, _, h => by simp at h
  | b :: l, c, r, h => by
    rw [List.dropWhile_cons] at h
    by_cases hb : (b == 48) = true
    · rw [if_pos hb] at h; exact trim_head l h
    · rw [if_neg hb] at h
      injection h with h1 h2
      subst h1
      exact fun e => hb (by rw [e]; rfl)
theorem isNum_of {s : ByteArray} (h0 : 0 < s.size) (hs : s.size ≤ 40000) (hd : Dg s.data.toList) (hf : bt s 0 ≠ 48 ∨ s.size = 1) : IsNum s := by
  refine ⟨h0, hs, by omega, fun i hi => ?_⟩
  rw [Lib.size_eq] at hi
  have : bt s i = (s.data.toList[i]).toNat := by unfold bt; rw [List.getD_eq_getElem?_getD, List.getElem?_eq_getElem hi]; rfl
  rw [this]
  exact hd _ (List.getElem_mem hi)
theorem isNum_dg {s : ByteArray} (h : IsNum s) : Dg s.data.toList := fun c hc => by
  obtain ⟨i, hi, rfl⟩ := List.getElem_of_mem hc
  have := h.2.2.2 i (by rw [Lib.size_eq]; exact hi)
  have e : bt s i = (s.data.toList[i]).toNat := by unfold bt; rw [List.getD_eq_getElem?_getD, List.getElem?_eq_getElem hi]; rfl
  rwa [e] at this
theorem tailZ_list (t : ByteArray) : (tailZ t).data.toList = t.data.toList.dropWhile (· == 48) := by
  unfold tailZ Lib.trimLeftB
  simp
theorem tailZ_num {t : ByteArray} (h : Dg t.data.toList) (hs : t.size ≤ 1000) (hp : 0 < (tailZ t).size) : isNumB (tailZ t) = true ∧ numV (tailZ t) = lv t.data.toList := by
  have hn : IsNum (tailZ t) := by
    refine isNum_of hp (by have := tailZ_size t; omega) (fun c hc => ?_) (.inl ?_)
    · rw [tailZ_list] at hc
      exact h c ((List.dropWhile_sublist _).subset hc)
    · have e := tailZ_list t
      cases hl : t.data.toList.dropWhile (· == 48) with
      | nil =>
        rw [hl] at e
        have : (tailZ t).size = 0 := by rw [Lib.size_eq, e]; rfl
        omega
      | cons c r =>
        rw [hl] at e
        have hc := trim_head _ hl
        unfold bt
        rw [e]
        intro h48
        apply hc
        have : c.toNat = 48 := h48
        exact UInt8.toNat_inj.1 this
  obtain ⟨h1, h2⟩ := num_yes hn
  exact ⟨h1, by rw [h2, bt_lv, tailZ_list, lv_trim]⟩
theorem tailZ_zero {t : ByteArray} (hp : (tailZ t).size = 0) : lv t.data.toList = 0 := by
  rw [← lv_trim, ← tailZ_list]
  rw [Lib.size_eq] at hp
  rw [List.eq_nil_of_length_eq_zero hp]
  rfl
theorem places_none (s : ByteArray) (w : World) (hs : s.size ≤ 1000) (h0 : 0 < s.size) (h1 : (tailZ s).size = 0) :
    Calls Tryz.prog 139 #[.string s] w fun e w' => ParsePost w w' e true 0 := by
  have D := fun w => Lib.hid (trimZ s w)
  generalize tailZ s = T at *
  have hT1 : (T.toList == []) = true := by
    rw [beq_iff_eq, Lib.toList_data]
    rw [Lib.size_eq] at h1
    exact List.eq_nil_of_length_eq_zero h1
  have hS1 : (s.toList == []) = false := by
    rw [beq_eq_false_iff_ne, Lib.toList_data]
    intro e
    rw [Lib.size_eq, e] at h0
    exact absurd h0 (by decide)
  clear h1 h0
  go_enter Tryz.func139, Tryz.ntmps139
  go_wp2_with fail
  refine (D _).out.mono ?_
  rintro e w1 ⟨rfl, rfl⟩
  clear D
  go_wp2
  go_ret2
  exact ⟨_, by simp, isNat_nil _, Below.refl _ _⟩
theorem places_all {t : ByteArray} (w : World) (h : Dg t.data.toList) (hs : t.size ≤ 1000) (h0 : 0 < t.size) :
    Calls Tryz.prog 139 #[.string t] w fun e w' => ParsePost w w' e true (lv t.data.toList) := by
  by_cases hp : (tailZ t).size = 0
  · rw [tailZ_zero hp]; exact places_none t w hs h0 hp
  · obtain ⟨h1, h2⟩ := tailZ_num h hs (by omega)
    rw [← h2]
    exact places_some t w hs (by omega) h1
theorem lv_zeros : ∀ n, lv (List.replicate n 48) = 0
  | 0 => rfl
  | n + 1 => by rw [List.replicate_succ, lv, lv_zeros n]; simp
theorem one_zeros (n : Nat) (hn : n ≤ 1000) : isNumB (⟨#[49]⟩ ++ zeros n) = true ∧ numV (⟨#[49]⟩ ++ zeros n) = 10 ^ n := by
  have hl : ((⟨#[49]⟩ : ByteArray) ++ zeros n).data.toList = 49 :: List.replicate n 48 := by
    rw [ByteArray.toList_data_append]
    simp [zeros]
  have hsz : ((⟨#[49]⟩ : ByteArray) ++ zeros n).size = n + 1 := by rw [Lib.size_eq, hl]; simp
  have hi : IsNum ((⟨#[49]⟩ : ByteArray) ++ zeros n) := by
    refine isNum_of (by omega) (by omega) (fun c hc => ?_) (.inl ?_)
    · rw [hl, List.mem_cons, List.mem_replicate] at hc
      rcases hc with rfl | ⟨_, rfl⟩ <;> decide
    · unfold bt
      rw [hl]
      show (49 : UInt8).toNat ≠ 48
      decide
  obtain ⟨h1, h2⟩ := num_yes hi
  refine ⟨h1, ?_⟩
  rw [h2, bt_lv, hl, lv, lv_zeros]
  simp
end Go.Proofs.YtglcififcldchaaGreatDoor

/-
  DERIVED: THE SHELF's CONTRACTS AT THIS DUMP, IN PLAIN WORDS (tools/lay-plain.mjs out of 'YtglcififcldchaaGreatDoorShR.lean', which tools/lay-shelf.mjs wrote): THE SAME DECLARATIONS UNDER THE SAME NAMES: 'import', 'namespace', 'open', 'def', 'theorem' AND NOTHING ELSE: no command of the shelf's: FOR A HAND-IN. Each laying: the table of numbers ('.._ren') and one theorem, a field a fact of the dump's own or the kernel's comparison; each contract: ONE APPLICATION.
-/
namespace Go.Proofs
open Go.Shelf
def Tryz.lays105_ren : Go.Shelf.Ren := ⟨fun | 105 => 140 | 212 => 157 | 99 => 158 | 165 => 159 | 166 => 160 | 170 => 161 | 169 => 162 | 263 => 178 | 264 => 179 | 206 => 173 | 240 => 180 | 241 => 181 | 276 => 190 | 277 => 191 | n => n, fun | 9 => 9 | 3 => 3 | 4 => 4 | 20 => 20 | 0 => 0 | 46 => 99 | 109 => 142 | 5 => 5 | 72 => 147 | 76 => 151 | 51 => 86 | 146 => 122 | 53 => 98 | 148 => 169 | 70 => 145 | 37 => 40 | 75 => 150 | 127 => 171 | 164 => 177 | 80 => 154 | n => n, fun | n => n⟩
theorem Tryz.lays105 : Go.Proofs.Lays.n105 Tryz.prog Tryz.lays105_ren := {
  mixed := by kernel_rfl
  f99 := Tryz.func158.trans (congrArg some (by kernel_rfl))
  f105 := Tryz.func140.trans (congrArg some (by kernel_rfl))
  f165 := Tryz.func159.trans (congrArg some (by kernel_rfl))
  f166 := Tryz.func160.trans (congrArg some (by kernel_rfl))
  f169 := Tryz.func162.trans (congrArg some (by kernel_rfl))
  f170 := Tryz.func161.trans (congrArg some (by kernel_rfl))
  f206 := Tryz.func173.trans (congrArg some (by kernel_rfl))
  f212 := Tryz.func157.trans (congrArg some (by kernel_rfl))
  f240 := Tryz.func180.trans (congrArg some (by kernel_rfl))
  f241 := Tryz.func181.trans (congrArg some (by kernel_rfl))
  f263 := Tryz.func178.trans (congrArg some (by kernel_rfl))
  f264 := Tryz.func179.trans (congrArg some (by kernel_rfl))
  f276 := Tryz.func190.trans (congrArg some (by kernel_rfl))
  f277 := Tryz.func191.trans (congrArg some (by kernel_rfl))
  t0 := Tryz.underlying0
  a0 := Tryz.isAgg0
  z0 := Tryz.sizeOf0
  v0 := Tryz.zeroValue0
  t3 := Tryz.underlying3
  a3 := Tryz.isAgg3
  z3 := Tryz.sizeOf3
  v3 := Tryz.zeroValue3
  t4 := Tryz.underlying4
  a4 := Tryz.isAgg4
  z4 := Tryz.sizeOf4
  v4 := Tryz.zeroValue4
  t5 := Tryz.underlying5
  a5 := Tryz.isAgg5
  z5 := Tryz.sizeOf5
  v5 := Tryz.zeroValue5
  t9 := Tryz.underlying9
  a9 := Tryz.isAgg9
  z9 := Tryz.sizeOf9
  v9 := Tryz.zeroValue9
  t20 := Tryz.underlying20
  a20 := Tryz.isAgg20
  z20 := Tryz.sizeOf20
  v20 := Tryz.zeroValue20
  t37 := Tryz.underlying40
  a37 := Tryz.isAgg40
  z37 := Tryz.sizeOf40
  v37 := Tryz.zeroValue40
  t46 := Tryz.underlying99
  a46 := Tryz.isAgg99
  z46 := Tryz.sizeOf99
  v46 := Tryz.zeroValue99
  t51 := Tryz.underlying86
  a51 := Tryz.isAgg86
  z51 := Tryz.sizeOf86
  v51 := Tryz.zeroValue86
  t53 := Tryz.underlying98
  a53 := Tryz.isAgg98
  z53 := Tryz.sizeOf98
  v53 := Tryz.zeroValue98
  t70 := Tryz.underlying145
  a70 := Tryz.isAgg145
  z70 := Tryz.sizeOf145
  v70 := Tryz.zeroValue145
  t72 := Tryz.underlying147
  a72 := Tryz.isAgg147
  z72 := Tryz.sizeOf147
  v72 := Tryz.zeroValue147
  t75 := Tryz.underlying150
  a75 := Tryz.isAgg150
  z75 := Tryz.sizeOf150
  v75 := Tryz.zeroValue150
  t76 := Tryz.underlying151
  a76 := Tryz.isAgg151
  z76 := Tryz.sizeOf151
  v76 := Tryz.zeroValue151
  t109 := Tryz.underlying142
  a109 := Tryz.isAgg142
  z109 := Tryz.sizeOf142
  v109 := Tryz.zeroValue142
  t127 := Tryz.underlying171
  a127 := Tryz.isAgg171
  z127 := Tryz.sizeOf171
  v127 := Tryz.zeroValue171
  t146 := Tryz.underlying122
  a146 := Tryz.isAgg122
  z146 := Tryz.sizeOf122
  v146 := Tryz.zeroValue122
  t148 := Tryz.underlying169
  a148 := Tryz.isAgg169
  z148 := Tryz.sizeOf169
  v148 := Tryz.zeroValue169
  t164 := Tryz.underlying177
  a164 := Tryz.isAgg177
  z164 := Tryz.sizeOf177
  v164 := Tryz.zeroValue177 }
theorem Tryz.Builder_Extra_105 : Builder.Extra Tryz.prog Tryz.lays105_ren := {
  sizeBuilder := by kernel_rfl
  liesBuilder := by kernel_rfl
  t5 := Tryz.underlying5
  a5 := Tryz.isAgg5
  z5 := Tryz.sizeOf5
  v5 := Tryz.zeroValue5
  infoByte := by kernel_rfl
  cellsByte := by kernel_rfl
  sizeByte := by kernel_rfl
  neB5 := by decide }
open Go.RowKit Go.Lib in
/-- **strings.Repeat: count ≥ 0, the result within one allocation: count copies of s.** (LAID: no walk: one application.) -/
theorem Tryz.strings_Repeat (s : ByteArray) (c : Nat) (w : World) (hc : c ≤ 9223372036854775807) (hlen : s.size * c ≤ 140737488355328) :
    Calls Tryz.prog 140 #[.string s, .int .i64 c] w fun e w' => e = .returned (.string ⟨(Lib.repeatL s.data.toList c).toArray⟩) ∧ Below w.heap.size w w' := Any.strings_Repeat Tryz.lays105 Tryz.Builder_Extra_105 s c w hc hlen
end Go.Proofs
