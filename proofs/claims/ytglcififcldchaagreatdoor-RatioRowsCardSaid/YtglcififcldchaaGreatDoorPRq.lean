/- Contracts of ratio: written and Parse, for what they call. -/
import Derived.Test.YtglcififcldchaaGreatDoorPRo
namespace Go.Proofs.YtglcififcldchaaGreatDoor
open Go.RowKit
attribute [local go_sem ↓] Go.wp_at_zero Go.wp_at_succ
set_option linter.unusedVariables false

set_option maxRecDepth 100000 in
set_option maxHeartbeats 4000000 in
theorem written_q (s : ByteArray) (i K : Nat) (X Y : Int) (ok : Bool) (w : World) (hs : s.size ≤ 1000) (h1 : Lib.indexByte s.data.toList 47 = i) (hi : i < s.size) (HQ : ∀ w, Calls Tryz.prog 109 #[.string (s.extract 0 i), .string (s.extract (i + 1) s.size)] w fun e w' => WrPost K w w' e X Y ok) :
    Calls Tryz.prog 76 #[.string s] w fun e w' => WrPost K w w' e X Y ok := by
  have HC := fun w => Lib.hid (cut_yes s 47 i w h1 hi (by omega))
  have HQ := fun w => Lib.hid (HQ w)
  generalize s.extract 0 i = a at *
  generalize s.extract (i + 1) s.size = b at *
  clear h1 hi hs
  go_enter Tryz.func76, Tryz.ntmps76
  go_wp2_with fail
  refine Calls.mono ((HC _).out) ?_
  rintro e w1 ⟨rfl, hb⟩
  have hB := bun (hb)
  have Kr_1 := Lib.hid (show Blk w1 (w.heap.size) 26 #[.bool false, .slice none 0 0, .bool false, .slice none 0 0] from (Blk.new _ _ (by simp) _ _).below hb)
  have HB_1 := Lib.hid (hB)
  have hs_1 : w.heap.size ≤ w1.heap.size := HB_1.out.size
  have hz_1 : w.heap.size + 1 ≤ w1.heap.size := (by have h := hb.size; (try simp at h); omega)
  clear hB hb 
  go_wp2_with fail
  refine Calls.mono ((HQ _).out) ?_
  rintro e w2 ⟨v, rfl, h, hb⟩
  obtain ⟨b2, A2, n2, c2, d2, B2, m2, k2, rfl, h1, h2⟩ := h.form
  have hB := hb
  have Kr_2 := Lib.hid (Kr_1.out.below hB)
  have x_2 := Lib.hid (h1)
  have y_2 := Lib.hid (h2)
  have HB_2 := Lib.hid (below_trans HB_1.out hB)
  have hs_2 : w.heap.size ≤ w2.heap.size := HB_2.out.size
  have hz_2 : w1.heap.size + 0 ≤ w2.heap.size := (by have h := hb.size; (try simp at h); omega)
  clear hB hb Kr_1 HB_1
  obtain ⟨p10, p11, p12, p13, l1⟩ := Kr_2.out.use4
  obtain ⟨r10, r11, r12, r13⟩ := Kr_2.out.into4
  go_wp2
  obtain ⟨WF, hWF⟩ : ∃ W, W = ((((w2.setCell ⟨w.heap.size, 0, none⟩ (.bool b2)).setCell ⟨w.heap.size, 1, none⟩ (.slice A2 n2 c2)).setCell ⟨w.heap.size, 2, none⟩ (.bool d2)).setCell ⟨w.heap.size, 3, none⟩ (.slice B2 m2 k2)) := ⟨_, rfl⟩
  rw [← hWF]
  have kq : Blk WF (w.heap.size) 26 #[.bool b2, .slice A2 n2 c2, .bool d2, .slice B2 m2 k2] := by rw [hWF]; exact Kr_2.out.own4
  have hBF : Below w.heap.size w WF := by rw [hWF]; exact Below.set4 (HB_2.out) (by first | omega | (simp; omega) | simp)
  have f1 : LimI K WF (.agg #[.bool b2, .slice A2 n2 c2]) X := by rw [hWF]; exact x_2.out.other4 Kr_2.out nu nu nu nu
  have f2 : LimI K WF (.agg #[.bool d2, .slice B2 m2 k2]) Y := by rw [hWF]; exact y_2.out.other4 Kr_2.out nu nu nu nu
  have HE : Hid (WrPost K w WF (Ending.returned (.tuple #[.agg #[.bool b2, .slice A2 n2 c2, .bool d2, .slice B2 m2 k2], .bool ok])) X Y ok) := ⟨_, rfl, limR_mk f1 f2, hBF⟩
  obtain ⟨e0, e1, e2, e3⟩ := kq.cells4
  clear hWF
  exact bodyPost_ret (v := .tuple #[.agg #[.bool b2, .slice A2 n2 c2, .bool d2, .slice B2 m2 k2], .bool ok]) (by simp [results, Tryz.results76, go_sem, e0, e1, e2, e3] <;> omega) rfl HE.out

set_option maxRecDepth 100000 in
set_option maxHeartbeats 4000000 in
theorem written_d (s : ByteArray) (i K : Nat) (X Y : Int) (ok : Bool) (w : World) (hs : s.size ≤ 1000) (h0 : Lib.indexByte s.data.toList 47 = -1) (h1 : Lib.indexByte s.data.toList 46 = i) (hi : i < s.size) (HQ : ∀ w, Calls Tryz.prog 110 #[.string (s.extract 0 i), .string (s.extract (i + 1) s.size)] w fun e w' => WrPost K w w' e X Y ok) :
    Calls Tryz.prog 76 #[.string s] w fun e w' => WrPost K w w' e X Y ok := by
  have HN := fun w => Lib.hid (cut_no s 47 w h0)
  have HC := fun w => Lib.hid (cut_yes s 46 i w h1 hi (by omega))
  have HQ := fun w => Lib.hid (HQ w)
  generalize s.extract 0 i = a at *
  generalize s.extract (i + 1) s.size = b at *
  clear h0 h1 hi hs
  go_enter Tryz.func76, Tryz.ntmps76
  go_wp2_with fail
  refine Calls.mono ((HN _).out) ?_
  rintro e w1 ⟨rfl, hb⟩
  have hB := bun (hb)
  have Kr_1 := Lib.hid (show Blk w1 (w.heap.size) 26 #[.bool false, .slice none 0 0, .bool false, .slice none 0 0] from (Blk.new _ _ (by simp) _ _).below hb)
  have HB_1 := Lib.hid (hB)
  have hs_1 : w.heap.size ≤ w1.heap.size := HB_1.out.size
  have hz_1 : w.heap.size + 1 ≤ w1.heap.size := (by have h := hb.size; (try simp at h); omega)
  clear hB hb 
  go_wp2_with fail
  refine Calls.mono ((HC _).out) ?_
  rintro e w2 ⟨rfl, hb⟩
  have hB := hb
  have Kr_2 := Lib.hid (Kr_1.out.below hB)
  have HB_2 := Lib.hid (below_trans HB_1.out hB)
  have hs_2 : w.heap.size ≤ w2.heap.size := HB_2.out.size
  have hz_2 : w1.heap.size + 0 ≤ w2.heap.size := (by have h := hb.size; (try simp at h); omega)
  clear hB hb Kr_1 HB_1
  go_wp2_with fail
  refine Calls.mono ((HQ _).out) ?_
  rintro e w3 ⟨v, rfl, h, hb⟩
  obtain ⟨b3, A3, n3, c3, d3, B3, m3, k3, rfl, h1, h2⟩ := h.form
  have hB := hb
  have Kr_3 := Lib.hid (Kr_2.out.below hB)
  have x_3 := Lib.hid (h1)
  have y_3 := Lib.hid (h2)
  have HB_3 := Lib.hid (below_trans HB_2.out hB)
  have hs_3 : w.heap.size ≤ w3.heap.size := HB_3.out.size
  have hz_3 : w2.heap.size + 0 ≤ w3.heap.size := (by have h := hb.size; (try simp at h); omega)
  clear hB hb Kr_2 HB_2
  obtain ⟨p10, p11, p12, p13, l1⟩ := Kr_3.out.use4
  obtain ⟨r10, r11, r12, r13⟩ := Kr_3.out.into4
  go_wp2
  obtain ⟨WF, hWF⟩ : ∃ W, W = ((((w3.setCell ⟨w.heap.size, 0, none⟩ (.bool b3)).setCell ⟨w.heap.size, 1, none⟩ (.slice A3 n3 c3)).setCell ⟨w.heap.size, 2, none⟩ (.bool d3)).setCell ⟨w.heap.size, 3, none⟩ (.slice B3 m3 k3)) := ⟨_, rfl⟩
  rw [← hWF]
  have kq : Blk WF (w.heap.size) 26 #[.bool b3, .slice A3 n3 c3, .bool d3, .slice B3 m3 k3] := by rw [hWF]; exact Kr_3.out.own4
  have hBF : Below w.heap.size w WF := by rw [hWF]; exact Below.set4 (HB_3.out) (by first | omega | (simp; omega) | simp)
  have f1 : LimI K WF (.agg #[.bool b3, .slice A3 n3 c3]) X := by rw [hWF]; exact x_3.out.other4 Kr_3.out nu nu nu nu
  have f2 : LimI K WF (.agg #[.bool d3, .slice B3 m3 k3]) Y := by rw [hWF]; exact y_3.out.other4 Kr_3.out nu nu nu nu
  have HE : Hid (WrPost K w WF (Ending.returned (.tuple #[.agg #[.bool b3, .slice A3 n3 c3, .bool d3, .slice B3 m3 k3], .bool ok])) X Y ok) := ⟨_, rfl, limR_mk f1 f2, hBF⟩
  obtain ⟨e0, e1, e2, e3⟩ := kq.cells4
  clear hWF
  exact bodyPost_ret (v := .tuple #[.agg #[.bool b3, .slice A3 n3 c3, .bool d3, .slice B3 m3 k3], .bool ok]) (by simp [results, Tryz.results76, go_sem, e0, e1, e2, e3] <;> omega) rfl HE.out

set_option maxRecDepth 100000 in
set_option maxHeartbeats 4000000 in
theorem qparse_yes (s : ByteArray) (K : Nat) (X Y : Int) (w : World) (hs : s.size ≤ 1000) (hK : K ≤ 100000) (hY : 0 < Y) (HW : ∀ w, Calls Tryz.prog 76 #[.string s] w fun e w' => WrPost K w w' e X Y true) :
    Calls Tryz.prog 39 #[.string s] w fun e w' => RatOfPost w w' e (Rat.divInt X Y) true := by
  have HW := fun w => Lib.hid (HW w)
  have hs1 : ¬ (s.size : Int) > 1000 := by omega
  have HK := Lib.hid hK
  have HY := Lib.hid hY
  clear hK hY
  clear hs
  go_enter Tryz.func39, Tryz.ntmps39
  go_wp2_with fail
  refine Calls.mono ((HW _).out) ?_
  rintro e w1 ⟨v, rfl, h, hb⟩
  obtain ⟨b1, A1, n1, c1, d1, B1, m1, k1, rfl, h1, h2⟩ := h.form
  have hB := bun (hb)
  have Kr_1 := Lib.hid (show Blk w1 (w.heap.size) 26 #[.bool false, .slice none 0 0, .bool false, .slice none 0 0] from (Blk.new _ _ (by simp) _ _).below hb)
  have x_1 := Lib.hid (h1)
  have y_1 := Lib.hid (h2)
  have HB_1 := Lib.hid (hB)
  have hs_1 : w.heap.size ≤ w1.heap.size := HB_1.out.size
  have hz_1 : w.heap.size + 1 ≤ w1.heap.size := (by have h := hb.size; (try simp at h); omega)
  clear hB hb 
  go_wp2_with fail
  refine Calls.mono (p_lowest ⟨X, Y, limR_mk (x_1.out.alloc_ _) (y_1.out.alloc_ _), HY.out, rfl⟩ HK.out) ?_
  rintro e w2 ⟨v, rfl, h, hb⟩
  obtain ⟨b2, A2, n2, c2, d2, B2, m2, k2, rfl, -, -, -, h1, h2⟩ := h.form
  have hB := bun (hb)
  have Kr_2 := Lib.hid (Kr_1.out.below hB)
  have Ka_2 := Lib.hid (show Blk w2 (w1.heap.size) 26 #[.bool b1, .slice A1 n1 c1, .bool d1, .slice B1 m1 k1] from (Blk.new _ _ (by simp) _ _).below hb)
  have z_2 := Lib.hid (h1)
  have z2_2 := Lib.hid (h2)
  have HB_2 := Lib.hid (below_trans HB_1.out hB)
  have hs_2 : w.heap.size ≤ w2.heap.size := HB_2.out.size
  have hz_2 : w1.heap.size + 1 ≤ w2.heap.size := (by have h := hb.size; (try simp at h); omega)
  clear hB hb x_1 y_1 Kr_1 HB_1
  obtain ⟨p10, p11, p12, p13, l1⟩ := Kr_2.out.use4
  obtain ⟨r10, r11, r12, r13⟩ := Kr_2.out.into4
  go_wp2
  obtain ⟨WF, hWF⟩ : ∃ W, W = ((((w2.setCell ⟨w.heap.size, 0, none⟩ (.bool b2)).setCell ⟨w.heap.size, 1, none⟩ (.slice A2 n2 c2)).setCell ⟨w.heap.size, 2, none⟩ (.bool d2)).setCell ⟨w.heap.size, 3, none⟩ (.slice B2 m2 k2)) := ⟨_, rfl⟩
  rw [← hWF]
  have kq : Blk WF (w.heap.size) 26 #[.bool b2, .slice A2 n2 c2, .bool d2, .slice B2 m2 k2] := by rw [hWF]; exact Kr_2.out.own4
  have hBF : Below w.heap.size w WF := by rw [hWF]; exact Below.set4 (HB_2.out) (by first | omega | (simp; omega) | simp)
  have f1 : IsInt WF (.agg #[.bool b2, .slice A2 n2 c2]) (Rat.divInt X Y).num := by rw [hWF]; exact z_2.out.other4 Kr_2.out nu nu nu nu
  have f2 : IsInt WF (.agg #[.bool d2, .slice B2 m2 k2]) ((Rat.divInt X Y).den : Int) := by rw [hWF]; exact z2_2.out.other4 Kr_2.out nu nu nu nu
  have HE : Hid (RatOfPost w WF (Ending.returned (.tuple #[.agg #[.bool b2, .slice A2 n2 c2, .bool d2, .slice B2 m2 k2], .bool true])) (Rat.divInt X Y) true) := ⟨_, rfl, ⟨_, _, _, _, rfl, f1, f2⟩, hBF⟩
  obtain ⟨e0, e1, e2, e3⟩ := kq.cells4
  clear hWF
  exact bodyPost_ret (v := .tuple #[.agg #[.bool b2, .slice A2 n2 c2, .bool d2, .slice B2 m2 k2], .bool true]) (by simp [results, Tryz.results39, go_sem, e0, e1, e2, e3] <;> omega) rfl HE.out

/- What is parsed when the packages wake. -/
theorem num_dec {s : ByteArray} (h : IsNum s) {N : Nat} (hN : dval (bt s) s.size = N) : isNumB s = true ∧ numV s = N := by
  rw [← hN]; exact num_yes h
theorem isNum_chk {s : ByteArray} (h : (decide (0 < s.size) && decide (s.size ≤ 40000) && !(decide (bt s 0 = 48) && decide (1 < s.size)) && (List.range s.size).all fun i => decide (48 ≤ bt s i) && decide (bt s i ≤ 57)) = true) : IsNum s := by
  simp only [Bool.and_eq_true, Bool.not_eq_true', decide_eq_true_eq, List.all_eq_true, List.mem_range, Bool.and_eq_false_iff, decide_eq_false_iff_not] at h
  obtain ⟨⟨⟨h1, h2⟩, h3⟩, h4⟩ := h
  refine ⟨h1, h2, ?_, fun i hi => h4 i hi⟩
  rintro ⟨a, b⟩
  rcases h3 with h3 | h3
  · exact h3 a
  · exact h3 b
theorem n1 : isNumB ⟨#[49]⟩ = true ∧ numV ⟨#[49]⟩ = 1 := num_dec (isNum_chk (by decide)) (by decide)
theorem n7 : isNumB ⟨#[55]⟩ = true ∧ numV ⟨#[55]⟩ = 7 := num_dec (isNum_chk (by decide)) (by decide)
theorem n14 : isNumB ⟨#[49, 52]⟩ = true ∧ numV ⟨#[49, 52]⟩ = 14 := num_dec (isNum_chk (by decide)) (by decide)
theorem n50 : isNumB ⟨#[53, 48]⟩ = true ∧ numV ⟨#[53, 48]⟩ = 50 := num_dec (isNum_chk (by decide)) (by decide)
theorem n100 : isNumB (⟨#[49]⟩ ++ zeros 2) = true ∧ numV (⟨#[49]⟩ ++ zeros 2) = 10 ^ 2 := num_dec (isNum_chk (by decide)) (by decide)
theorem minus_yes : minusB ⟨#[45, 49]⟩ = true := (minusB_iff _).2 ⟨by decide, by decide⟩
theorem minus_no : minusB ⟨#[55]⟩ = false := by
  cases h : minusB ⟨#[55]⟩
  · rfl
  · exact absurd ((minusB_iff _).1 h).2 (by decide)
theorem dig_yes : digitsOf ⟨#[45, 49]⟩ = ⟨#[49]⟩ := by unfold digitsOf; rw [if_pos minus_yes]; rfl
theorem dig_no : digitsOf ⟨#[55]⟩ = ⟨#[55]⟩ := by unfold digitsOf; rw [if_neg (by rw [minus_no]; decide)]
theorem int7 : intB ⟨#[55]⟩ = true ∧ intV ⟨#[55]⟩ = 7 := by
  unfold intB intV
  rw [minus_no, dig_no, n7.1, n7.2]
  exact ⟨rfl, rfl⟩
theorem parse_b (w : World) : Calls Tryz.prog 39 #[.string ⟨#[45, 49, 46, 53, 48]⟩] w fun e w' => RatOfPost w w' e (Rat.divInt (-3) 2) true := by
  have hq : Rat.divInt (-3) 2 = Rat.divInt (-150) 100 := by decide
  rw [hq]
  refine qparse_yes _ (3 + 3 + 1) (-150) 100 w (by decide) (by omega) (by omega) fun w => ?_
  refine written_d _ 2 (3 + 3 + 1) (-150) 100 true w (by decide) (by rfl) (by rfl) (by decide) fun w => ?_
  have h := dec_yes ⟨#[45, 49]⟩ ⟨#[53, 48]⟩ 2 50 3 w (by decide) (by decide) (by omega) (by omega) (by rw [dig_yes]; exact n1.1) (fun w => by
    have := places_some ⟨#[53, 48]⟩ w (by decide) (by decide) (by rw [show tailZ ⟨#[53, 48]⟩ = ⟨#[53, 48]⟩ from rfl]; exact n50.1)
    rw [show tailZ ⟨#[53, 48]⟩ = ⟨#[53, 48]⟩ from rfl, n50.2] at this
    exact this) (by decide) (fun w => repeat_few 2 w (by omega) (by omega)) n100.1 n100.2
  rw [dig_yes, n1.2, minus_yes] at h
  exact h
theorem parse_c (w : World) : Calls Tryz.prog 39 #[.string ⟨#[55, 47, 49, 52]⟩] w fun e w' => RatOfPost w w' e (Rat.divInt 1 2) true := by
  have hq : Rat.divInt 1 2 = Rat.divInt 7 14 := by decide
  rw [hq]
  refine qparse_yes _ 2 7 14 w (by decide) (by omega) (by omega) fun w => ?_
  refine written_q _ 1 2 7 14 true w (by decide) (by rfl) (by decide) fun w => ?_
  have h := quot_yes ⟨#[55]⟩ ⟨#[49, 52]⟩ 2 w (by decide) (by decide) (by omega) int7.1 n14.1 (by rw [n14.2]; omega)
  rw [int7.2, n14.2] at h
  exact h
end Go.Proofs.YtglcififcldchaaGreatDoor
