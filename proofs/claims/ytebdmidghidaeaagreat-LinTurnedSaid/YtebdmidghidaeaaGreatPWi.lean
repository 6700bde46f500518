/- Contracts of the document's own whole numbers: Same, Plain, Mul, Cmp. -/
import Derived.Test.YtebdmidghidaeaaGreatPWf
import Derived.Lib.Strings
namespace Go.Proofs.YtebdmidghidaeaaGreat
open Go.RowKit
attribute [local go_sem ↓] Go.wp_at_zero Go.wp_at_succ

theorem limI_mk {k : Nat} {w : World} {m : Value} {b : Bool} {N : Nat} (h : Lim k w m N) : LimI k w (.agg #[.bool b, m]) (sg b N) := ⟨b, m, N, rfl, h, rfl⟩

set_option maxHeartbeats 1000000 in
theorem isInt_same {k : Nat} {w : World} {v v' : Value} {X : Int} (h : IsInt w v X) (h' : IsInt w v' X) (hX : X.natAbs < 4294967296 ^ k) (hk : k ≤ 1000000) :
    Calls Tryz.prog 41 #[v, v'] w fun e w' => e = .returned (.bool true) ∧ Below w.heap.size w w' := by
  obtain ⟨m, rfl, h1⟩ := h
  obtain ⟨m', rfl, h1'⟩ := h'
  obtain ⟨A, n, c, rfl, _, h1⟩ := isNat_form h1
  obtain ⟨B, m, d, rfl, _, h1'⟩ := isNat_form h1'
  generalize decide (X < 0) = b
  have H1 := Lib.hid h1
  have H2 := Lib.hid h1'
  have HX := Lib.hid hX
  have hs0 : w.heap.size < w.heap.size + 1 + 1 := by omega
  go_enter Tryz.func41, Tryz.ntmps41
  go_wp2_with fail
  refine Calls.mono (isNat_same (k := k) ((H1.out.alloc_ _).alloc_ _) ((H2.out.alloc_ _).alloc_ _) HX.out hk) ?_
  rintro e w1 ⟨rfl, hb1⟩
  have HB := Lib.hid (show Below w.heap.size w w1 from (by repeat first | exact Below.refl _ _ | (with_reducible refine Below.trans ?_ (Below.mono (by with_reducible assumption) ?_)) | (with_reducible refine Below.alloc_ ?_ ?_ _) | (with_reducible refine Below.drew ?_) | (with_reducible refine Below.set2 ?_ ?_) | exact Nat.le_refl _ | omega | focus (simp <;> omega)))
  clear hb1
  go_wp2
  go_ret
  exact ⟨rfl, HB.out⟩

set_option maxHeartbeats 1000000 in
theorem rplain_false (A : Option Addr) (n c N k : Nat) (w : World) (h : Lim k w (.slice A n c) N) (hk : k ≤ 1000000) :
    Calls Tryz.prog 57 #[.agg #[.bool false, .slice A n c]] w fun e w' => IntPost w w' e (sg false N) := by
  go_enter Tryz.func57, Tryz.ntmps57
  go_wp2_with fail
  refine Calls.mono (lim_rtr (k := k) (N := N) (by repeat (first | with_reducible assumption | (with_reducible refine Hid.out ?_; with_reducible assumption) | ((with_reducible refine Blk.new _ _ ?_ _ _) <;> (simp; done)) | (with_reducible apply Blk.drew_) | (with_reducible apply Lim.drew_) | (with_reducible apply IsNat.drew_) | (with_reducible refine Lim.alloc_ ?_ _) | (with_reducible refine IsNat.alloc_ ?_ _) | (with_reducible refine Blk.alloc_ ?_ _) | (with_reducible apply Blk.own2) | (with_reducible refine Blk.other2 ?_ (by omega)) | (with_reducible apply IsNat.other2) | (with_reducible refine Blk.below ?_ (by with_reducible assumption)) | (with_reducible refine Lim.below ?_ (by with_reducible assumption)) | (with_reducible refine IsNat.below ?_ (by with_reducible assumption)))) hk) ?_
  rintro e w1 ⟨v1, rfl, h1, hb1⟩
  obtain ⟨A1, n1, c1, rfl, hn1, h1⟩ := isNat_form h1
  have hz1 : w.heap.size + 2 ≤ w1.heap.size := (by have hz := hb1.size; (try simp at hz); omega)
  have k1_0 := Blk.below (g := w.heap.size) (t := 25) (cs := #[.bool false, .slice A n c]) (by repeat (first | with_reducible assumption | (with_reducible refine Hid.out ?_; with_reducible assumption) | ((with_reducible refine Blk.new _ _ ?_ _ _) <;> (simp; done)) | (with_reducible apply Blk.drew_) | (with_reducible apply Lim.drew_) | (with_reducible apply IsNat.drew_) | (with_reducible refine Lim.alloc_ ?_ _) | (with_reducible refine IsNat.alloc_ ?_ _) | (with_reducible refine Blk.alloc_ ?_ _) | (with_reducible apply Blk.own2) | (with_reducible refine Blk.other2 ?_ (by omega)) | (with_reducible apply IsNat.other2) | (with_reducible refine Blk.below ?_ (by with_reducible assumption)) | (with_reducible refine Lim.below ?_ (by with_reducible assumption)) | (with_reducible refine IsNat.below ?_ (by with_reducible assumption)))) hb1
  have p1_0 := k1_0.cell0
  have K1_0 := Lib.hid k1_0; clear k1_0
  have k1_1 := Blk.below (g := w.heap.size + 1) (t := 25) (cs := #[_, _]) (by repeat (first | with_reducible assumption | (with_reducible refine Hid.out ?_; with_reducible assumption) | ((with_reducible refine Blk.new _ _ ?_ _ _) <;> (simp; done)) | (with_reducible apply Blk.drew_) | (with_reducible apply Lim.drew_) | (with_reducible apply IsNat.drew_) | (with_reducible refine Lim.alloc_ ?_ _) | (with_reducible refine IsNat.alloc_ ?_ _) | (with_reducible refine Blk.alloc_ ?_ _) | (with_reducible apply Blk.own2) | (with_reducible refine Blk.other2 ?_ (by omega)) | (with_reducible apply IsNat.other2) | (with_reducible refine Blk.below ?_ (by with_reducible assumption)) | (with_reducible refine Lim.below ?_ (by with_reducible assumption)) | (with_reducible refine IsNat.below ?_ (by with_reducible assumption)))) hb1
  obtain ⟨p1_1, q1_1, r1_1, s1_1, t1_1⟩ := k1_1.facts2; clear q1_1
  have K1_1 := Lib.hid k1_1; clear k1_1
  have HB1 := Lib.hid (show Below w.heap.size w w1 from (by repeat first | exact Below.refl _ _ | (with_reducible refine Below.trans ?_ (Below.mono (by with_reducible assumption) ?_)) | (with_reducible refine Below.alloc_ ?_ ?_ _) | (with_reducible refine Below.drew ?_) | (with_reducible refine Below.set2 ?_ ?_) | exact Nat.le_refl _ | omega | focus (simp <;> omega)))
  clear hb1
  go_wp2
  obtain ⟨WF, hWF⟩ : ∃ W, W = (w1.setCell ⟨w.heap.size + 1, 0, none⟩ (.bool false)).setCell ⟨w.heap.size + 1, 1, none⟩ (.slice A1 n1 c1) := ⟨_, rfl⟩
  rw [← hWF]
  have kq : Blk WF (w.heap.size + 1) 25 #[.bool false, .slice A1 n1 c1] := by rw [hWF]; exact K1_1.out.own2
  have hBF : Below w.heap.size w WF := by rw [hWF]; exact Below.set2 HB1.out (by omega)
  have hI : IsNat WF (.slice A1 n1 c1) (N) := by rw [hWF]; exact h1.other2 K1_1.out
  have HE : Hid (IntPost w WF (.returned (.agg #[.bool false, .slice A1 n1 c1])) (sg false N)) := ⟨_, rfl, isInt_sg (b := false) hI, hBF⟩
  have e0 := kq.cell0
  have e1 := kq.cell1
  clear hWF
  exact bodyPost_ret (v := .agg #[.bool false, .slice A1 n1 c1]) (by simp [results, Tryz.results57, go_sem, e0, e1]) rfl HE.out

set_option maxHeartbeats 1000000 in
theorem rplain_true (A : Option Addr) (n c N k : Nat) (w : World) (h : Lim k w (.slice A n c) N) (hk : k ≤ 1000000) :
    Calls Tryz.prog 57 #[.agg #[.bool true, .slice A n c]] w fun e w' => IntPost w w' e (sg true N) := by
  go_enter Tryz.func57, Tryz.ntmps57
  go_wp2_with fail
  refine Calls.mono (lim_rtr (k := k) (N := N) (by repeat (first | with_reducible assumption | (with_reducible refine Hid.out ?_; with_reducible assumption) | ((with_reducible refine Blk.new _ _ ?_ _ _) <;> (simp; done)) | (with_reducible apply Blk.drew_) | (with_reducible apply Lim.drew_) | (with_reducible apply IsNat.drew_) | (with_reducible refine Lim.alloc_ ?_ _) | (with_reducible refine IsNat.alloc_ ?_ _) | (with_reducible refine Blk.alloc_ ?_ _) | (with_reducible apply Blk.own2) | (with_reducible refine Blk.other2 ?_ (by omega)) | (with_reducible apply IsNat.other2) | (with_reducible refine Blk.below ?_ (by with_reducible assumption)) | (with_reducible refine Lim.below ?_ (by with_reducible assumption)) | (with_reducible refine IsNat.below ?_ (by with_reducible assumption)))) hk) ?_
  rintro e w1 ⟨v1, rfl, h1, hb1⟩
  obtain ⟨A1, n1, c1, rfl, hn1, h1⟩ := isNat_form h1
  have hz1 : w.heap.size + 2 ≤ w1.heap.size := (by have hz := hb1.size; (try simp at hz); omega)
  have k1_0 := Blk.below (g := w.heap.size) (t := 25) (cs := #[.bool true, .slice A n c]) (by repeat (first | with_reducible assumption | (with_reducible refine Hid.out ?_; with_reducible assumption) | ((with_reducible refine Blk.new _ _ ?_ _ _) <;> (simp; done)) | (with_reducible apply Blk.drew_) | (with_reducible apply Lim.drew_) | (with_reducible apply IsNat.drew_) | (with_reducible refine Lim.alloc_ ?_ _) | (with_reducible refine IsNat.alloc_ ?_ _) | (with_reducible refine Blk.alloc_ ?_ _) | (with_reducible apply Blk.own2) | (with_reducible refine Blk.other2 ?_ (by omega)) | (with_reducible apply IsNat.other2) | (with_reducible refine Blk.below ?_ (by with_reducible assumption)) | (with_reducible refine Lim.below ?_ (by with_reducible assumption)) | (with_reducible refine IsNat.below ?_ (by with_reducible assumption)))) hb1
  have p1_0 := k1_0.cell0
  have K1_0 := Lib.hid k1_0; clear k1_0
  have k1_1 := Blk.below (g := w.heap.size + 1) (t := 25) (cs := #[_, _]) (by repeat (first | with_reducible assumption | (with_reducible refine Hid.out ?_; with_reducible assumption) | ((with_reducible refine Blk.new _ _ ?_ _ _) <;> (simp; done)) | (with_reducible apply Blk.drew_) | (with_reducible apply Lim.drew_) | (with_reducible apply IsNat.drew_) | (with_reducible refine Lim.alloc_ ?_ _) | (with_reducible refine IsNat.alloc_ ?_ _) | (with_reducible refine Blk.alloc_ ?_ _) | (with_reducible apply Blk.own2) | (with_reducible refine Blk.other2 ?_ (by omega)) | (with_reducible apply IsNat.other2) | (with_reducible refine Blk.below ?_ (by with_reducible assumption)) | (with_reducible refine Lim.below ?_ (by with_reducible assumption)) | (with_reducible refine IsNat.below ?_ (by with_reducible assumption)))) hb1
  obtain ⟨p1_1, q1_1, r1_1, s1_1, t1_1⟩ := k1_1.facts2; clear q1_1
  have K1_1 := Lib.hid k1_1; clear k1_1
  have HB1 := Lib.hid (show Below w.heap.size w w1 from (by repeat first | exact Below.refl _ _ | (with_reducible refine Below.trans ?_ (Below.mono (by with_reducible assumption) ?_)) | (with_reducible refine Below.alloc_ ?_ ?_ _) | (with_reducible refine Below.drew ?_) | (with_reducible refine Below.set2 ?_ ?_) | exact Nat.le_refl _ | omega | focus (simp <;> omega)))
  clear hb1
  have hd : decide (0 < n1) = decide (0 < N) := by
    by_cases x : 0 < n1
    · rw [decide_eq_true x, decide_eq_true (hn1.1 x)]
    · rw [decide_eq_false x, decide_eq_false (by rw [← hn1]; exact x)]
  clear hn1
  generalize hr : decide (0 < n1) = r at *
  have HD := Lib.hid hd
  have hr' : decide ((0 : Int) < (n1 : Int)) = r := by rw [← hr]; by_cases x : 0 < n1 <;> simp [x] 
  clear hd
  go_wp2
  obtain ⟨WF, hWF⟩ : ∃ W, W = (w1.setCell ⟨w.heap.size + 1, 0, none⟩ (.bool r)).setCell ⟨w.heap.size + 1, 1, none⟩ (.slice A1 n1 c1) := ⟨_, rfl⟩
  rw [← hWF]
  have kq : Blk WF (w.heap.size + 1) 25 #[.bool r, .slice A1 n1 c1] := by rw [hWF]; exact K1_1.out.own2
  have hBF : Below w.heap.size w WF := by rw [hWF]; exact Below.set2 HB1.out (by omega)
  have hI : IsNat WF (.slice A1 n1 c1) (N) := by rw [hWF]; exact h1.other2 K1_1.out
  have HE : Hid (IntPost w WF (.returned (.agg #[.bool r, .slice A1 n1 c1])) (sg true N)) := ⟨_, rfl, by have := isInt_sg (b := true) hI; rw [← HD.out] at this; exact this, hBF⟩
  have e0 := kq.cell0
  have e1 := kq.cell1
  clear hWF
  exact bodyPost_ret (v := .agg #[.bool r, .slice A1 n1 c1]) (by simp [results, Tryz.results57, go_sem, e0, e1]) rfl HE.out

theorem li_rplain {k : Nat} {w : World} {v : Value} {X : Int} (h : LimI k w v X) (hk : k ≤ 1000000) : Calls Tryz.prog 57 #[v] w fun e w' => IntPost w w' e X := by
  obtain ⟨b, m, N, rfl, ⟨A, n, c, f, rfl, hr⟩, rfl⟩ := h
  cases b
  · exact rplain_false A n c N k w ⟨A, n, c, f, rfl, hr⟩ hk
  · exact rplain_true A n c N k w ⟨A, n, c, f, rfl, hr⟩ hk

end Go.Proofs.YtebdmidghidaeaaGreat
