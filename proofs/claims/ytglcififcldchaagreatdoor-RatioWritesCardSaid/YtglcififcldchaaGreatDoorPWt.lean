/- Parse of whole numbers on the document's side; a text that is written is read. -/
import Derived.Test.YtglcififcldchaaGreatDoorPWs
namespace Go.Proofs.YtglcififcldchaaGreatDoor
open Go.RowKit
attribute [local go_sem ↓] Go.wp_at_zero Go.wp_at_succ
set_option linter.unusedVariables false

theorem dval_pos {f : Nat → Nat} {n : Nat} (h0 : 0 < n) (hf : f 0 ≠ 48) (hl : 48 ≤ f 0) : 0 < dval f n := by
  obtain ⟨k, rfl⟩ : ∃ k, n = 1 + k := ⟨n - 1, by omega⟩
  rw [dval_add]
  have : 0 < dval f 1 := by simp [dval]; omega
  have : 0 < dval f 1 * 10 ^ k := Nat.mul_pos this (Nat.pow_pos (by omega))
  omega
theorem str_one {q : ByteArray} (hs : q.size = 1) (h : bt q 0 = 48) : q = ⟨#[48]⟩ := by
  apply ByteArray.ext
  have hq : q.data.size = 1 := hs
  have h0 : bt q 0 = q.data[0].toNat := by
    have := bt_get q 0 (by omega)
    rw [this]; rfl
  apply Array.ext
  · rw [hq]; rfl
  · intro i h1 h2
    obtain rfl : i = 0 := by omega
    apply UInt8.toNat_inj.1
    rw [← h0, h]
    rfl
theorem data_dash (q : ByteArray) : (dash ++ q).data.toList = 45 :: q.data.toList := by
  rw [ByteArray.data_append]
  simp [dash]
theorem one_iff (q : ByteArray) : q.toList = [48] ↔ q = ⟨#[48]⟩ := by
  rw [Lib.toList_data]
  constructor
  · intro h
    apply ByteArray.ext
    apply Array.toList_inj.1
    exact h
  · intro h; rw [h]
theorem num_zero_iff {q : ByteArray} (h : IsNum q) : numV q = 0 ↔ q = ⟨#[48]⟩ := by
  rw [(num_yes h).2]
  obtain ⟨h1, h2, h3, h4⟩ := h
  constructor
  · intro hz
    by_cases hb : bt q 0 = 48
    · exact str_one (by have : ¬ 1 < q.size := fun x => h3 ⟨hb, x⟩; omega) hb
    · have := dval_pos (f := bt q) h1 hb (h4 0 h1).1
      omega
  · intro e
    subst e
    decide

set_option maxRecDepth 100000 in
set_option maxHeartbeats 4000000 in
theorem rparseI_empty (s : ByteArray) (w : World) (hs : s.size ≤ 4611686018427387904) (h0 : s.size = 0) (hq : isNumB s = false) :
    Calls Tryz.prog 79 #[.string s] w fun e w' => ParsePostI w w' e false 0 := by
  have P := fun W => Lib.hid (str_rparse (s) W (by omega))
  rw [hq] at P
  have hg : ¬ (0 : Int) < (s.size : Int) := by omega
  clear hq
  go_enter Tryz.func79, Tryz.ntmps79
  go_wp2_with fail
  refine Calls.mono (P _).out ?_
  rintro e w1 ⟨v1, rfl, h1, hb1⟩
  obtain ⟨A1, n1, c1, rfl, hn1, h1⟩ := isNat_form h1
  have hz1' : w.heap.size + 1 ≤ w1.heap.size := (by have hz := hb1.size; (try simp at hz); omega)
  have k0 := Blk.below (g := w.heap.size) (t := 24) (cs := #[.bool false, .slice none 0 0]) (by repeat (first | (with_reducible first | assumption | (refine Hid.out ?_; assumption) | apply Blk.drew_) | ((with_reducible refine Blk.new _ _ ?_ _ _) <;> (first | rfl | (simp; done))) | (with_reducible first | refine Blk.alloc_ ?_ _ | apply Blk.own2 | refine Blk.other2 ?_ (by omega) | (apply Blk.below; rotate_left; assumption)))) hb1
  obtain ⟨p0, q0, r0, s0, t0⟩ := k0.facts2
  have HBL := Lib.hid (show Below w.heap.size w w1 from (by repeat first | exact Below.refl _ _ | (with_reducible refine Below.trans ?_ (Below.mono (by with_reducible assumption) ?_)) | (with_reducible refine Below.alloc_ ?_ ?_ _) | (with_reducible refine Below.drew ?_) | (with_reducible refine Below.set2 ?_ ?_) | exact Nat.le_refl _ | omega | focus (simp <;> omega)))
  have K0 := Lib.hid k0
  clear k0 hb1 q0 P
  go_wp2
  obtain ⟨WF, hWF⟩ : ∃ W, W = (w1.setCell ⟨w.heap.size, 0, none⟩ (.bool false)).setCell ⟨w.heap.size, 1, none⟩ (.slice none 0 0) := ⟨_, rfl⟩
  rw [← hWF]
  have kq : Blk WF (w.heap.size) 24 #[.bool false, .slice none 0 0] := by rw [hWF]; exact K0.out.own2
  have hBF : Below w.heap.size w WF := by rw [hWF]; exact Below.set2 HBL.out (by omega)
  have HE : Hid (ParsePostI w WF (.returned (.tuple #[.agg #[.bool false, .slice none 0 0], .bool false])) false 0) := ⟨_, rfl, isInt_zero _, hBF⟩
  have e0 := kq.cell0
  have e1 := kq.cell1
  clear hWF
  exact bodyPost_ret (v := .tuple #[.agg #[.bool false, .slice none 0 0], .bool false]) (by simp [results, Tryz.results79, go_sem, e0, e1]) rfl HE.out

set_option maxRecDepth 100000 in
set_option maxHeartbeats 4000000 in
theorem rparseI_plain_no (s : ByteArray) (w : World) (hs : s.size ≤ 4611686018427387904) (h0 : 0 < s.size) (h1 : bt s 0 ≠ 45) (hq : isNumB s = false) :
    Calls Tryz.prog 79 #[.string s] w fun e w' => ParsePostI w w' e false 0 := by
  have P := fun W => Lib.hid (str_rparse (s) W (by omega))
  rw [hq] at P
  have hg : ((s[0].toNat : Int) == 45) = false := by
    rw [← bt_get s 0 h0]
    rw [beq_eq_false_iff_ne]; omega
  have hg2 : (1 : Int) ≤ (s.size : Int) := by omega
  have hg4 : (0 : Int) < (s.size : Int) := by omega
  clear hq h1
  go_enter Tryz.func79, Tryz.ntmps79
  go_wp2_with fail
  refine Calls.mono (P _).out ?_
  rintro e w1 ⟨v1, rfl, h1, hb1⟩
  obtain ⟨A1, n1, c1, rfl, hn1, h1⟩ := isNat_form h1
  have hz1' : w.heap.size + 1 ≤ w1.heap.size := (by have hz := hb1.size; (try simp at hz); omega)
  have k0 := Blk.below (g := w.heap.size) (t := 24) (cs := #[.bool false, .slice none 0 0]) (by repeat (first | (with_reducible first | assumption | (refine Hid.out ?_; assumption) | apply Blk.drew_) | ((with_reducible refine Blk.new _ _ ?_ _ _) <;> (first | rfl | (simp; done))) | (with_reducible first | refine Blk.alloc_ ?_ _ | apply Blk.own2 | refine Blk.other2 ?_ (by omega) | (apply Blk.below; rotate_left; assumption)))) hb1
  obtain ⟨p0, q0, r0, s0, t0⟩ := k0.facts2
  have HBL := Lib.hid (show Below w.heap.size w w1 from (by repeat first | exact Below.refl _ _ | (with_reducible refine Below.trans ?_ (Below.mono (by with_reducible assumption) ?_)) | (with_reducible refine Below.alloc_ ?_ ?_ _) | (with_reducible refine Below.drew ?_) | (with_reducible refine Below.set2 ?_ ?_) | exact Nat.le_refl _ | omega | focus (simp <;> omega)))
  have K0 := Lib.hid k0
  clear k0 hb1 q0 P
  go_wp2
  obtain ⟨WF, hWF⟩ : ∃ W, W = (w1.setCell ⟨w.heap.size, 0, none⟩ (.bool false)).setCell ⟨w.heap.size, 1, none⟩ (.slice none 0 0) := ⟨_, rfl⟩
  rw [← hWF]
  have kq : Blk WF (w.heap.size) 24 #[.bool false, .slice none 0 0] := by rw [hWF]; exact K0.out.own2
  have hBF : Below w.heap.size w WF := by rw [hWF]; exact Below.set2 HBL.out (by omega)
  have HE : Hid (ParsePostI w WF (.returned (.tuple #[.agg #[.bool false, .slice none 0 0], .bool false])) false 0) := ⟨_, rfl, isInt_zero _, hBF⟩
  have e0 := kq.cell0
  have e1 := kq.cell1
  clear hWF
  exact bodyPost_ret (v := .tuple #[.agg #[.bool false, .slice none 0 0], .bool false]) (by simp [results, Tryz.results79, go_sem, e0, e1]) rfl HE.out

set_option maxRecDepth 100000 in
set_option maxHeartbeats 4000000 in
theorem rparseI_plain_yes (s : ByteArray) (w : World) (hs : s.size ≤ 4611686018427387904) (h0 : 0 < s.size) (h1 : bt s 0 ≠ 45) (hq : isNumB s = true) :
    Calls Tryz.prog 79 #[.string s] w fun e w' => ParsePostI w w' e true (sg false (numV (s))) := by
  have P := fun W => Lib.hid (str_rparse (s) W (by omega))
  rw [hq] at P
  have hg : ((s[0].toNat : Int) == 45) = false := by
    rw [← bt_get s 0 h0]
    rw [beq_eq_false_iff_ne]; omega
  have hg2 : (1 : Int) ≤ (s.size : Int) := by omega
  have hg4 : (0 : Int) < (s.size : Int) := by omega
  generalize numV (s) = N at *
  clear hq h1
  go_enter Tryz.func79, Tryz.ntmps79
  go_wp2_with fail
  refine Calls.mono (P _).out ?_
  rintro e w1 ⟨v1, rfl, h1, hb1⟩
  obtain ⟨A1, n1, c1, rfl, hn1, h1⟩ := isNat_form h1
  have hz1' : w.heap.size + 1 ≤ w1.heap.size := (by have hz := hb1.size; (try simp at hz); omega)
  have k0 := Blk.below (g := w.heap.size) (t := 24) (cs := #[.bool false, .slice none 0 0]) (by repeat (first | (with_reducible first | assumption | (refine Hid.out ?_; assumption) | apply Blk.drew_) | ((with_reducible refine Blk.new _ _ ?_ _ _) <;> (first | rfl | (simp; done))) | (with_reducible first | refine Blk.alloc_ ?_ _ | apply Blk.own2 | refine Blk.other2 ?_ (by omega) | (apply Blk.below; rotate_left; assumption)))) hb1
  obtain ⟨p0, q0, r0, s0, t0⟩ := k0.facts2
  have HBL := Lib.hid (show Below w.heap.size w w1 from (by repeat first | exact Below.refl _ _ | (with_reducible refine Below.trans ?_ (Below.mono (by with_reducible assumption) ?_)) | (with_reducible refine Below.alloc_ ?_ ?_ _) | (with_reducible refine Below.drew ?_) | (with_reducible refine Below.set2 ?_ ?_) | exact Nat.le_refl _ | omega | focus (simp <;> omega)))
  have K0 := Lib.hid k0
  clear k0 hb1 q0 P
  go_wp2
  obtain ⟨WF, hWF⟩ : ∃ W, W = (w1.setCell ⟨w.heap.size, 0, none⟩ (.bool false)).setCell ⟨w.heap.size, 1, none⟩ (.slice A1 n1 c1) := ⟨_, rfl⟩
  rw [← hWF]
  have kq : Blk WF (w.heap.size) 24 #[.bool false, .slice A1 n1 c1] := by rw [hWF]; exact K0.out.own2
  have hBF : Below w.heap.size w WF := by rw [hWF]; exact Below.set2 HBL.out (by omega)
  have hI : IsNat WF (.slice A1 n1 c1) (N) := by rw [hWF]; exact h1.other2 K0.out
  have hII : IsInt WF (.agg #[.bool false, .slice A1 n1 c1]) (sg false N) := by
    have := isInt_sg (b := false) hI
    rwa [show (false && decide (0 < N)) = false from rfl] at this
  have HE : Hid (ParsePostI w WF (.returned (.tuple #[.agg #[.bool false, .slice A1 n1 c1], .bool true])) true (sg false N)) := ⟨_, rfl, hII, hBF⟩
  have e0 := kq.cell0
  have e1 := kq.cell1
  clear hWF
  exact bodyPost_ret (v := .tuple #[.agg #[.bool false, .slice A1 n1 c1], .bool true]) (by simp [results, Tryz.results79, go_sem, e0, e1]) rfl HE.out

set_option maxRecDepth 100000 in
set_option maxHeartbeats 4000000 in
theorem rparseI_minus_no (s : ByteArray) (w : World) (hs : s.size ≤ 4611686018427387904) (h0 : 0 < s.size) (h1 : bt s 0 = 45) (hq : isNumB (s.extract 1 s.size) = false) :
    Calls Tryz.prog 79 #[.string s] w fun e w' => ParsePostI w w' e false 0 := by
  have P := fun W => Lib.hid (str_rparse (s.extract 1 s.size) W (by rw [ByteArray.size_extract]; omega))
  rw [hq] at P
  have hg : ((s[0].toNat : Int) == 45) = true := by
    rw [← bt_get s 0 h0]
    rw [h1]; rfl
  have hg2 : (1 : Int) ≤ (s.size : Int) := by omega
  have hg4 : (0 : Int) < (s.size : Int) := by omega
  clear hq h1
  go_enter Tryz.func79, Tryz.ntmps79
  go_wp2_with fail
  refine Calls.mono (P _).out ?_
  rintro e w1 ⟨v1, rfl, h1, hb1⟩
  obtain ⟨A1, n1, c1, rfl, hn1, h1⟩ := isNat_form h1
  have hz1' : w.heap.size + 1 ≤ w1.heap.size := (by have hz := hb1.size; (try simp at hz); omega)
  have k0 := Blk.below (g := w.heap.size) (t := 24) (cs := #[.bool false, .slice none 0 0]) (by repeat (first | (with_reducible first | assumption | (refine Hid.out ?_; assumption) | apply Blk.drew_) | ((with_reducible refine Blk.new _ _ ?_ _ _) <;> (first | rfl | (simp; done))) | (with_reducible first | refine Blk.alloc_ ?_ _ | apply Blk.own2 | refine Blk.other2 ?_ (by omega) | (apply Blk.below; rotate_left; assumption)))) hb1
  obtain ⟨p0, q0, r0, s0, t0⟩ := k0.facts2
  have HBL := Lib.hid (show Below w.heap.size w w1 from (by repeat first | exact Below.refl _ _ | (with_reducible refine Below.trans ?_ (Below.mono (by with_reducible assumption) ?_)) | (with_reducible refine Below.alloc_ ?_ ?_ _) | (with_reducible refine Below.drew ?_) | (with_reducible refine Below.set2 ?_ ?_) | exact Nat.le_refl _ | omega | focus (simp <;> omega)))
  have K0 := Lib.hid k0
  clear k0 hb1 q0 P
  go_wp2
  obtain ⟨WF, hWF⟩ : ∃ W, W = (w1.setCell ⟨w.heap.size, 0, none⟩ (.bool false)).setCell ⟨w.heap.size, 1, none⟩ (.slice none 0 0) := ⟨_, rfl⟩
  rw [← hWF]
  have kq : Blk WF (w.heap.size) 24 #[.bool false, .slice none 0 0] := by rw [hWF]; exact K0.out.own2
  have hBF : Below w.heap.size w WF := by rw [hWF]; exact Below.set2 HBL.out (by omega)
  have HE : Hid (ParsePostI w WF (.returned (.tuple #[.agg #[.bool false, .slice none 0 0], .bool false])) false 0) := ⟨_, rfl, isInt_zero _, hBF⟩
  have e0 := kq.cell0
  have e1 := kq.cell1
  clear hWF
  exact bodyPost_ret (v := .tuple #[.agg #[.bool false, .slice none 0 0], .bool false]) (by simp [results, Tryz.results79, go_sem, e0, e1]) rfl HE.out

set_option maxRecDepth 100000 in
set_option maxHeartbeats 4000000 in
theorem rparseI_minus_zero (s : ByteArray) (w : World) (hs : s.size ≤ 4611686018427387904) (h0 : 0 < s.size) (h1 : bt s 0 = 45) (hq : isNumB (s.extract 1 s.size) = true) (hz : s.extract 1 s.size = ⟨#[48]⟩) :
    Calls Tryz.prog 79 #[.string s] w fun e w' => ParsePostI w w' e false 0 := by
  have P := fun W => Lib.hid (str_rparse (s.extract 1 s.size) W (by rw [ByteArray.size_extract]; omega))
  rw [hq] at P
  have hg : ((s[0].toNat : Int) == 45) = true := by
    rw [← bt_get s 0 h0]
    rw [h1]; rfl
  have hg2 : (1 : Int) ≤ (s.size : Int) := by omega
  have hg4 : (0 : Int) < (s.size : Int) := by omega
  have hz1 : ((s.extract 1 s.size).toList == [48]) = true := by rw [beq_iff_eq]; exact (one_iff _).2 hz
  clear hz
  clear hq h1
  go_enter Tryz.func79, Tryz.ntmps79
  go_wp2_with fail
  refine Calls.mono (P _).out ?_
  rintro e w1 ⟨v1, rfl, h1, hb1⟩
  obtain ⟨A1, n1, c1, rfl, hn1, h1⟩ := isNat_form h1
  have hz1' : w.heap.size + 1 ≤ w1.heap.size := (by have hz := hb1.size; (try simp at hz); omega)
  have k0 := Blk.below (g := w.heap.size) (t := 24) (cs := #[.bool false, .slice none 0 0]) (by repeat (first | (with_reducible first | assumption | (refine Hid.out ?_; assumption) | apply Blk.drew_) | ((with_reducible refine Blk.new _ _ ?_ _ _) <;> (first | rfl | (simp; done))) | (with_reducible first | refine Blk.alloc_ ?_ _ | apply Blk.own2 | refine Blk.other2 ?_ (by omega) | (apply Blk.below; rotate_left; assumption)))) hb1
  obtain ⟨p0, q0, r0, s0, t0⟩ := k0.facts2
  have HBL := Lib.hid (show Below w.heap.size w w1 from (by repeat first | exact Below.refl _ _ | (with_reducible refine Below.trans ?_ (Below.mono (by with_reducible assumption) ?_)) | (with_reducible refine Below.alloc_ ?_ ?_ _) | (with_reducible refine Below.drew ?_) | (with_reducible refine Below.set2 ?_ ?_) | exact Nat.le_refl _ | omega | focus (simp <;> omega)))
  have K0 := Lib.hid k0
  clear k0 hb1 q0 P
  go_wp2
  obtain ⟨WF, hWF⟩ : ∃ W, W = (w1.setCell ⟨w.heap.size, 0, none⟩ (.bool false)).setCell ⟨w.heap.size, 1, none⟩ (.slice none 0 0) := ⟨_, rfl⟩
  rw [← hWF]
  have kq : Blk WF (w.heap.size) 24 #[.bool false, .slice none 0 0] := by rw [hWF]; exact K0.out.own2
  have hBF : Below w.heap.size w WF := by rw [hWF]; exact Below.set2 HBL.out (by omega)
  have HE : Hid (ParsePostI w WF (.returned (.tuple #[.agg #[.bool false, .slice none 0 0], .bool false])) false 0) := ⟨_, rfl, isInt_zero _, hBF⟩
  have e0 := kq.cell0
  have e1 := kq.cell1
  clear hWF
  exact bodyPost_ret (v := .tuple #[.agg #[.bool false, .slice none 0 0], .bool false]) (by simp [results, Tryz.results79, go_sem, e0, e1]) rfl HE.out

set_option maxRecDepth 100000 in
set_option maxHeartbeats 4000000 in
theorem rparseI_minus_yes (s : ByteArray) (w : World) (hs : s.size ≤ 4611686018427387904) (h0 : 0 < s.size) (h1 : bt s 0 = 45) (hq : isNumB (s.extract 1 s.size) = true) (hz : s.extract 1 s.size ≠ ⟨#[48]⟩) (hN : 0 < numV (s.extract 1 s.size)) :
    Calls Tryz.prog 79 #[.string s] w fun e w' => ParsePostI w w' e true (sg true (numV (s.extract 1 s.size))) := by
  have P := fun W => Lib.hid (str_rparse (s.extract 1 s.size) W (by rw [ByteArray.size_extract]; omega))
  rw [hq] at P
  have hg : ((s[0].toNat : Int) == 45) = true := by
    rw [← bt_get s 0 h0]
    rw [h1]; rfl
  have hg2 : (1 : Int) ≤ (s.size : Int) := by omega
  have hg4 : (0 : Int) < (s.size : Int) := by omega
  have hz1 : ((s.extract 1 s.size).toList == [48]) = false := by rw [beq_eq_false_iff_ne]; exact fun e => hz ((one_iff _).1 e)
  generalize numV (s.extract 1 s.size) = N at *
  have HN0 := Lib.hid hN
  clear hN
  clear hz
  clear hq h1
  go_enter Tryz.func79, Tryz.ntmps79
  go_wp2_with fail
  refine Calls.mono (P _).out ?_
  rintro e w1 ⟨v1, rfl, h1, hb1⟩
  obtain ⟨A1, n1, c1, rfl, hn1, h1⟩ := isNat_form h1
  have hz1' : w.heap.size + 1 ≤ w1.heap.size := (by have hz := hb1.size; (try simp at hz); omega)
  have k0 := Blk.below (g := w.heap.size) (t := 24) (cs := #[.bool false, .slice none 0 0]) (by repeat (first | (with_reducible first | assumption | (refine Hid.out ?_; assumption) | apply Blk.drew_) | ((with_reducible refine Blk.new _ _ ?_ _ _) <;> (first | rfl | (simp; done))) | (with_reducible first | refine Blk.alloc_ ?_ _ | apply Blk.own2 | refine Blk.other2 ?_ (by omega) | (apply Blk.below; rotate_left; assumption)))) hb1
  obtain ⟨p0, q0, r0, s0, t0⟩ := k0.facts2
  have HBL := Lib.hid (show Below w.heap.size w w1 from (by repeat first | exact Below.refl _ _ | (with_reducible refine Below.trans ?_ (Below.mono (by with_reducible assumption) ?_)) | (with_reducible refine Below.alloc_ ?_ ?_ _) | (with_reducible refine Below.drew ?_) | (with_reducible refine Below.set2 ?_ ?_) | exact Nat.le_refl _ | omega | focus (simp <;> omega)))
  have K0 := Lib.hid k0
  clear k0 hb1 q0 P
  go_wp2
  obtain ⟨WF, hWF⟩ : ∃ W, W = (w1.setCell ⟨w.heap.size, 0, none⟩ (.bool true)).setCell ⟨w.heap.size, 1, none⟩ (.slice A1 n1 c1) := ⟨_, rfl⟩
  rw [← hWF]
  have kq : Blk WF (w.heap.size) 24 #[.bool true, .slice A1 n1 c1] := by rw [hWF]; exact K0.out.own2
  have hBF : Below w.heap.size w WF := by rw [hWF]; exact Below.set2 HBL.out (by omega)
  have hI : IsNat WF (.slice A1 n1 c1) (N) := by rw [hWF]; exact h1.other2 K0.out
  have hII : IsInt WF (.agg #[.bool true, .slice A1 n1 c1]) (sg true N) := by
    have := isInt_sg (b := true) hI
    rwa [show (true && decide (0 < N)) = true from by rw [decide_eq_true HN0.out]; rfl] at this
  have HE : Hid (ParsePostI w WF (.returned (.tuple #[.agg #[.bool true, .slice A1 n1 c1], .bool true])) true (sg true N)) := ⟨_, rfl, hII, hBF⟩
  have e0 := kq.cell0
  have e1 := kq.cell1
  clear hWF
  exact bodyPost_ret (v := .tuple #[.agg #[.bool true, .slice A1 n1 c1], .bool true]) (by simp [results, Tryz.results79, go_sem, e0, e1]) rfl HE.out

theorem not_num_empty {s : ByteArray} (h : s.size = 0) : isNumB s = false := (num_no (fun x => by have := x.1; omega)).1
theorem isNumB_iff (s : ByteArray) : isNumB s = true ↔ IsNum s := by unfold isNumB; simp
theorem str_rparseI (s : ByteArray) (w : World) (hs : s.size ≤ 4611686018427387904) : Calls Tryz.prog 79 #[.string s] w fun e w' => ParsePostI w w' e (intB s) (intV s) := by
  by_cases hm : Minus s
  · have e1 : minusB s = true := (minusB_iff s).2 hm
    have e2 : digitsOf s = s.extract 1 s.size := by unfold digitsOf; rw [if_pos e1]; rfl
    cases hq : isNumB (s.extract 1 s.size)
    · have hb : intB s = false := by unfold intB; rw [e2, hq]; rfl
      rw [hb, intV_zero hb]
      exact rparseI_minus_no s w hs hm.1 hm.2 hq
    · have hi := num_zero_iff ((isNumB_iff _).1 hq)
      by_cases hz : s.extract 1 s.size = ⟨#[48]⟩
      · have hb : intB s = false := by unfold intB; rw [e1, e2, hq, hi.2 hz]; rfl
        rw [hb, intV_zero hb]
        exact rparseI_minus_zero s w hs hm.1 hm.2 hq hz
      · have hp : 0 < numV (s.extract 1 s.size) := Nat.pos_of_ne_zero fun e => hz (hi.1 e)
        have hb : intB s = true := by unfold intB; rw [e1, e2, hq, decide_eq_true hp]; rfl
        have hv : intV s = sg true (numV (s.extract 1 s.size)) := by unfold intV; rw [e1, e2]
        rw [hb, hv]
        exact rparseI_minus_yes s w hs hm.1 hm.2 hq hz hp
  · have e1 : minusB s = false := by
      cases h : minusB s
      · rfl
      · exact absurd ((minusB_iff s).1 h) hm
    have e2 : digitsOf s = s := by unfold digitsOf; rw [e1]; rfl
    by_cases h0 : s.size = 0
    · have hq := not_num_empty h0
      have hb : intB s = false := by unfold intB; rw [e2, hq]; rfl
      rw [hb, intV_zero hb]
      exact rparseI_empty s w hs h0 hq
    · have h1 : bt s 0 ≠ 45 := fun h => hm ⟨by omega, h⟩
      cases hq : isNumB s
      · have hb : intB s = false := by unfold intB; rw [e2, hq]; rfl
        rw [hb, intV_zero hb]
        exact rparseI_plain_no s w hs (by omega) h1 hq
      · have hb : intB s = true := by unfold intB; rw [e1, e2, hq]; rfl
        have hv : intV s = sg false (numV s) := by unfold intV; rw [e1, e2]
        rw [hb, hv]
        exact rparseI_plain_yes s w hs (by omega) h1 hq
theorem dash_size (q : ByteArray) : (dash ++ q).size = 1 + q.size := by rw [ByteArray.size_append]; rfl
theorem dash_tail (q : ByteArray) : (dash ++ q).extract 1 (dash ++ q).size = q := by
  apply ByteArray.ext
  apply Array.toList_inj.1
  have := Lib.extract_toList (dash ++ q) 1 (dash ++ q).size
  rw [Lib.toList_data, data_dash, dash_size] at this
  rw [dash_size, this]
  simp only [List.drop_succ_cons, List.drop_zero, Nat.add_sub_cancel_left]
  exact List.take_of_length_le (by simp)
theorem dash_first (q : ByteArray) : bt (dash ++ q) 0 = 45 := by
  unfold bt
  rw [data_dash]
  rfl
theorem text_intB {X : Int} {k : Nat} (hX : X.natAbs < 4294967296 ^ k) (hk : k ≤ 1000) : intB (textI X) = true ∧ intV (textI X) = X := by
  have h10 : X.natAbs < 10 ^ (10 * k) := Nat.lt_of_lt_of_le hX (by rw [Nat.pow_mul]; exact Nat.pow_le_pow_left (by decide) _)
  obtain ⟨hn, hv⟩ := decS_read h10 (by omega)
  have h1 := num_yes hn
  rw [hv] at h1
  unfold textI
  by_cases h : X < 0
  · rw [if_pos h]
    have e1 : minusB (dash ++ decS X.natAbs) = true := (minusB_iff _).2 ⟨by rw [dash_size]; omega, dash_first _⟩
    have e2 : digitsOf (dash ++ decS X.natAbs) = decS X.natAbs := by unfold digitsOf; rw [if_pos e1]; exact dash_tail _
    unfold intB intV
    rw [e1, e2, h1.1, h1.2, decide_eq_true (show 0 < X.natAbs by omega)]
    refine ⟨rfl, ?_⟩
    show -(_ : Int) = _
    omega
  · rw [if_neg h]
    have e1 : minusB (decS X.natAbs) = false := by
      cases hm : minusB (decS X.natAbs)
      · rfl
      · have := (minusB_iff _).1 hm
        have := hn.2.2.2 0 hn.1
        have := this.1
        have := ‹Minus _›.2
        omega
    have e2 : digitsOf (decS X.natAbs) = decS X.natAbs := by unfold digitsOf; rw [e1]; rfl
    unfold intB intV
    rw [e1, e2, h1.1, h1.2]
    refine ⟨rfl, ?_⟩
    show ((_ : Nat) : Int) = _
    omega
end Go.Proofs.YtglcififcldchaaGreatDoor
