/- Contracts of Read of whole numbers, of both sides. -/
import Derived.Test.YtglcififcldchaaGreatDoorPWq
namespace Go.Proofs.YtglcififcldchaaGreatDoor
open Go.RowKit
attribute [local go_sem ↓] Go.wp_at_zero Go.wp_at_succ
set_option linter.unusedVariables false

theorem Byt.other2 {w : World} {v : Value} {n g : Nat} {f : Nat → Nat} {t : TypeId} {b0 : Bool} {A0 : Option Addr} {n0 c0 : Nat} {x y : Value} (h : Byt w v n f) (hk : Blk w g t #[.bool b0, .slice A0 n0 c0]) : Byt ((w.setCell ⟨g, 0, none⟩ x).setCell ⟨g, 1, none⟩ y) v n f := by
  obtain ⟨A, c, h1, h2, h3, h4⟩ := h
  exact ⟨A, c, h1, h2, (h3.apart hk.cell0 (fun z e => by cases e) x).apart (second_cell hk.cell1 x) (fun z e => by cases e) y, h4⟩
theorem byt_nil (w : World) (g : Nat → Nat) : Byt w (.slice none 0 0) 0 g := ⟨none, 0, rfl, Nat.le_refl _, Rd.zero, fun j hj => absurd hj (by omega)⟩
def tl (f : Nat → Nat) : Nat → Nat := fun j => f (1 + j)
/-- What a whole number's Read tells. -/
def ReadResI (w w' : World) (e : Ending) (b : Bool) (X : Int) (m : Nat) (g : Nat → Nat) : Prop :=
  ∃ va vb, e = .returned (.tuple #[va, vb, .bool b]) ∧ IsInt w' va X ∧ Byt w' vb m g ∧ Below w.heap.size w w'
theorem Byt.tail {w : World} {ad : Addr} {n c : Nat} {f : Nat → Nat} (h : Byt w (.slice (some ad) n c) n f) (hn : 0 < n) :
    ∃ B, (∀ (wq : World), (Instr.slice 40 (.slice (some ad) n c) (some (.int .i64 1)) none none).run Tryz.prog wq = .ok (.slice B (n - 1) (c - 1)) wq) ∧ Byt w (.slice B (n - 1) (c - 1)) (n - 1) (tl f) := by
  obtain ⟨A, c', e, h1, h2, h3⟩ := h
  injection e with e1 _ e3
  subst e1 e3
  obtain ⟨B, b1, b2⟩ := rest_at ad n c 1 f w h2 h1 (by omega)
  exact ⟨B, fun wq => b1 wq 1 rfl, B, c - 1, rfl, by omega, b2, fun j hj => h3 _ (by omega)⟩
theorem Byt.first {w : World} {A : Option Addr} {n c : Nat} {f : Nat → Nat} (h : Byt w (.slice A n c) n f) (hn : 0 < n) : ∃ ad, A = some ad ∧ ad.block < w.heap.size ∧ w.cell? ad = some (.int .u8 (f 0 : Nat)) := by
  obtain ⟨ad, e, hb⟩ := h.rd.some_ hn
  subst e
  exact ⟨ad, rfl, hb, h.rd.at_ (j := 0) hn⟩

set_option maxHeartbeats 1000000 in
theorem wread_empty (A : Option Addr) (n c : Nat) (g : Nat → Nat) (w : World) (hn : n = 0) : Calls Tryz.prog 81 #[.slice A n c] w fun e w' => ReadResI w w' e false 0 0 g := by
  have h0 : ((n : Int) == 0) = true := by rw [beq_iff_eq]; omega
  clear hn
  go_enter Tryz.func81, Tryz.ntmps81
  have k0 : Blk (w.alloc (.cells #[.bool false, .slice none 0 0] 24)) w.heap.size 24 #[.bool false, .slice none 0 0] := Blk.new _ _ rfl _ _
  have K0 := Lib.hid k0
  have HB0 := Lib.hid (below_new w (.cells #[.bool false, .slice none 0 0] 24))
  obtain ⟨p0, q0, r0, s0, t0⟩ := k0.facts2
  clear k0
  go_wp2
  exact bodyPost_ret (v := .tuple #[.agg #[.bool false, .slice none 0 0], .slice none 0 0, .bool false]) (by simp [results, Tryz.results81, go_sem, p0, q0]) rfl ⟨_, _, rfl, isInt_zero _, byt_nil _ _, HB0.out⟩

set_option maxRecDepth 100000 in
set_option maxHeartbeats 4000000 in
theorem wread_odd (A : Option Addr) (n c : Nat) (f : Nat → Nat) (g : Nat → Nat) (w : World) (hb : Byt w (.slice A n c) n f) (hn : 0 < n) (hm : n ≤ 1000000) (hz : 1 < f 0) : Calls Tryz.prog 81 #[.slice A n c] w fun e w' => ReadResI w w' e false 0 0 g := by
  obtain ⟨ad, rfl, hbl, hcell⟩ := hb.first hn
  have hcl := hb.rd.at_ (j := 0) hn
  have hlt : f 0 < 256 := by obtain ⟨_, _, _, _, _, h⟩ := hb; exact h 0 hn
  have h0 : ((n : Int) == 0) = false := by rw [beq_eq_false_iff_ne]; omega
  have hn0 : (0 : Int) < (n : Int) := by omega
  obtain ⟨y, hy⟩ : ∃ y, y = f 0 := ⟨_, rfl⟩
  rw [← hy] at hcell hcl hz hlt
  have y0 : ((y : Int) != 0) = true := by rw [bne_iff_ne]; omega
  have y1 : ((y : Int) != 1) = true := by rw [bne_iff_ne]; omega
  have y2 : (1 : Int) < (y : Int) := by omega
  clear hb hz hlt hy
  go_enter Tryz.func81, Tryz.ntmps81
  have k0 : Blk (w.alloc (.cells #[.bool false, .slice none 0 0] 24)) w.heap.size 24 #[.bool false, .slice none 0 0] := Blk.new _ _ rfl _ _
  have K0 := Lib.hid k0
  have HB0 := Lib.hid (below_new w (.cells #[.bool false, .slice none 0 0] 24))
  obtain ⟨p0, q0, r0, s0, t0⟩ := k0.facts2
  clear k0
  go_wp2
  exact bodyPost_ret (v := .tuple #[.agg #[.bool false, .slice none 0 0], .slice none 0 0, .bool false]) (by simp [results, Tryz.results81, go_sem, p0, q0]) rfl ⟨_, _, rfl, isInt_zero _, byt_nil _ _, HB0.out⟩

set_option maxRecDepth 100000 in
set_option maxHeartbeats 4000000 in
theorem wread_no_f (A : Option Addr) (n c : Nat) (f : Nat → Nat) (g : Nat → Nat) (w : World) (hb : Byt w (.slice A n c) n f) (hn : 0 < n) (hm : n ≤ 1000000) (hz : f 0 = 0) (hk : readB (tl f) (n - 1) = false) : Calls Tryz.prog 81 #[.slice A n c] w fun e w' => ReadResI w w' e false 0 0 g := by
  obtain ⟨ad, rfl, hbl, hcell⟩ := hb.first hn
  have hcl := hb.rd.at_ (j := 0) hn
  have hlt : f 0 < 256 := by obtain ⟨_, _, _, _, _, h⟩ := hb; exact h 0 hn
  have h0 : ((n : Int) == 0) = false := by rw [beq_eq_false_iff_ne]; omega
  have hn0 : (0 : Int) < (n : Int) := by omega
  obtain ⟨B, hsl, hbt⟩ := hb.tail hn
  have HT := Lib.hid hbt
  rw [hz] at hcell hcl
  have HNm : Hid (n - 1 ≤ 1000000) := by show _ ≤ _; omega
  have RD := fun W (hW : Byt W (.slice B (n - 1) (c - 1)) (n - 1) (tl f)) => byt_read hW HNm.out
  rw [hk] at RD
  have HRD := Lib.hid RD
  generalize readN (tl f) (n - 1) = N at *
  generalize readM (tl f) (n - 1) = M at *
  generalize n - 1 = n' at *
  generalize c - 1 = c' at *
  clear hb hlt hz hk hbt RD
  go_enter Tryz.func81, Tryz.ntmps81
  go_wp2_with fail
  refine Calls.mono (behind_any false _) ?_
  rintro e w0 ⟨rfl, rfl⟩
  go_wp2_with fail
  refine Calls.mono (HRD.out _ ((HT.out.below (below_new w _)).below (below_new _ _))) ?_
  rintro e w1 ⟨va, vb, rfl, h1, h2, hb1⟩
  obtain ⟨A1, n1, c1, rfl, hn1, h1⟩ := isNat_form h1
  obtain ⟨B2, d2, rfl, h2⟩ := h2.form
  have hz1 : w.heap.size + 2 ≤ w1.heap.size := (by have hz := hb1.size; (try simp at hz); omega)
  have k0 := Blk.below (g := w.heap.size) (t := 24) (cs := #[.bool false, .slice none 0 0]) (by repeat (first | (with_reducible first | assumption | (refine Hid.out ?_; assumption) | apply Blk.drew_) | ((with_reducible refine Blk.new _ _ ?_ _ _) <;> (first | rfl | (simp; done))) | (with_reducible first | refine Blk.alloc_ ?_ _ | apply Blk.own2 | refine Blk.other2 ?_ (by omega) | (apply Blk.below; rotate_left; assumption)))) hb1
  obtain ⟨p0, q0, r0, s0, t0⟩ := k0.facts2
  have k1 := Blk.below (g := w.heap.size + 1) (t := 4) (cs := #[.bool false]) (by repeat (first | (with_reducible first | assumption | (refine Hid.out ?_; assumption) | apply Blk.drew_) | ((with_reducible refine Blk.new _ _ ?_ _ _) <;> (first | rfl | (simp; done))) | (with_reducible first | refine Blk.alloc_ ?_ _ | apply Blk.own2 | refine Blk.other2 ?_ (by omega) | (apply Blk.below; rotate_left; assumption)))) hb1
  have p1 := k1.cell 0
  have HBL := Lib.hid (show Below w.heap.size w w1 from (by repeat first | exact Below.refl _ _ | (with_reducible refine Below.trans ?_ (Below.mono (by with_reducible assumption) ?_)) | (with_reducible refine Below.alloc_ ?_ ?_ _) | (with_reducible refine Below.drew ?_) | (with_reducible refine Below.set2 ?_ ?_) | exact Nat.le_refl _ | omega | focus (simp <;> omega)))
  have hcw : w1.cell? ad = some (.int .u8 0) := by
    have := HBL.out.cell (p := ad) hbl
    rw [this]; exact hcell
  have hcw2 : w1.cell? (ad.add 0) = some (.int .u8 0) := by rw [show ad.add 0 = ad from rfl]; exact hcw
  have hbl1 : ad.block < w1.heap.size := by omega
  have K0 := Lib.hid k0
  have H2 := Lib.hid h2
  clear k0 hb1 q0 HRD hsl hcell hcl h2 k1
  go_wp2
  obtain ⟨WF, hWF⟩ : ∃ W, W = (w1.setCell ⟨w.heap.size, 0, none⟩ (.bool false)).setCell ⟨w.heap.size, 1, none⟩ (.slice none 0 0) := ⟨_, rfl⟩
  rw [← hWF]
  have kq : Blk WF (w.heap.size) 24 #[.bool false, .slice none 0 0] := by rw [hWF]; exact K0.out.own2
  have hBF : Below w.heap.size w WF := by rw [hWF]; exact Below.set2 HBL.out (by omega)
  have HE : Hid (ReadResI w WF (.returned (.tuple #[.agg #[.bool false, .slice none 0 0], .slice none 0 0, .bool false])) false 0 0 g) := ⟨_, _, rfl, isInt_zero _, byt_nil _ _, hBF⟩
  have e0 := kq.cell0
  have e1 := kq.cell1
  clear hWF
  exact bodyPost_ret (v := .tuple #[.agg #[.bool false, .slice none 0 0], .slice none 0 0, .bool false]) (by simp [results, Tryz.results81, go_sem, e0, e1]) rfl HE.out

set_option maxRecDepth 100000 in
set_option maxHeartbeats 4000000 in
theorem wread_no_t (A : Option Addr) (n c : Nat) (f : Nat → Nat) (g : Nat → Nat) (w : World) (hb : Byt w (.slice A n c) n f) (hn : 0 < n) (hm : n ≤ 1000000) (hz : f 0 = 1) (hk : readB (tl f) (n - 1) = false) : Calls Tryz.prog 81 #[.slice A n c] w fun e w' => ReadResI w w' e false 0 0 g := by
  obtain ⟨ad, rfl, hbl, hcell⟩ := hb.first hn
  have hcl := hb.rd.at_ (j := 0) hn
  have hlt : f 0 < 256 := by obtain ⟨_, _, _, _, _, h⟩ := hb; exact h 0 hn
  have h0 : ((n : Int) == 0) = false := by rw [beq_eq_false_iff_ne]; omega
  have hn0 : (0 : Int) < (n : Int) := by omega
  obtain ⟨B, hsl, hbt⟩ := hb.tail hn
  have HT := Lib.hid hbt
  rw [hz] at hcell hcl
  have HNm : Hid (n - 1 ≤ 1000000) := by show _ ≤ _; omega
  have RD := fun W (hW : Byt W (.slice B (n - 1) (c - 1)) (n - 1) (tl f)) => byt_read hW HNm.out
  rw [hk] at RD
  have HRD := Lib.hid RD
  generalize readN (tl f) (n - 1) = N at *
  generalize readM (tl f) (n - 1) = M at *
  generalize n - 1 = n' at *
  generalize c - 1 = c' at *
  clear hb hlt hz hk hbt RD
  go_enter Tryz.func81, Tryz.ntmps81
  go_wp2_with fail
  refine Calls.mono (behind_any true _) ?_
  rintro e w0 ⟨rfl, rfl⟩
  go_wp2_with fail
  refine Calls.mono (HRD.out _ ((HT.out.below (below_new w _)).below (below_new _ _))) ?_
  rintro e w1 ⟨va, vb, rfl, h1, h2, hb1⟩
  obtain ⟨A1, n1, c1, rfl, hn1, h1⟩ := isNat_form h1
  obtain ⟨B2, d2, rfl, h2⟩ := h2.form
  have hz1 : w.heap.size + 2 ≤ w1.heap.size := (by have hz := hb1.size; (try simp at hz); omega)
  have k0 := Blk.below (g := w.heap.size) (t := 24) (cs := #[.bool false, .slice none 0 0]) (by repeat (first | (with_reducible first | assumption | (refine Hid.out ?_; assumption) | apply Blk.drew_) | ((with_reducible refine Blk.new _ _ ?_ _ _) <;> (first | rfl | (simp; done))) | (with_reducible first | refine Blk.alloc_ ?_ _ | apply Blk.own2 | refine Blk.other2 ?_ (by omega) | (apply Blk.below; rotate_left; assumption)))) hb1
  obtain ⟨p0, q0, r0, s0, t0⟩ := k0.facts2
  have k1 := Blk.below (g := w.heap.size + 1) (t := 4) (cs := #[.bool true]) (by repeat (first | (with_reducible first | assumption | (refine Hid.out ?_; assumption) | apply Blk.drew_) | ((with_reducible refine Blk.new _ _ ?_ _ _) <;> (first | rfl | (simp; done))) | (with_reducible first | refine Blk.alloc_ ?_ _ | apply Blk.own2 | refine Blk.other2 ?_ (by omega) | (apply Blk.below; rotate_left; assumption)))) hb1
  have p1 := k1.cell 0
  have HBL := Lib.hid (show Below w.heap.size w w1 from (by repeat first | exact Below.refl _ _ | (with_reducible refine Below.trans ?_ (Below.mono (by with_reducible assumption) ?_)) | (with_reducible refine Below.alloc_ ?_ ?_ _) | (with_reducible refine Below.drew ?_) | (with_reducible refine Below.set2 ?_ ?_) | exact Nat.le_refl _ | omega | focus (simp <;> omega)))
  have hcw : w1.cell? ad = some (.int .u8 1) := by
    have := HBL.out.cell (p := ad) hbl
    rw [this]; exact hcell
  have hcw2 : w1.cell? (ad.add 0) = some (.int .u8 1) := by rw [show ad.add 0 = ad from rfl]; exact hcw
  have hbl1 : ad.block < w1.heap.size := by omega
  have K0 := Lib.hid k0
  have H2 := Lib.hid h2
  clear k0 hb1 q0 HRD hsl hcell hcl h2 k1
  go_wp2
  obtain ⟨WF, hWF⟩ : ∃ W, W = (w1.setCell ⟨w.heap.size, 0, none⟩ (.bool false)).setCell ⟨w.heap.size, 1, none⟩ (.slice none 0 0) := ⟨_, rfl⟩
  rw [← hWF]
  have kq : Blk WF (w.heap.size) 24 #[.bool false, .slice none 0 0] := by rw [hWF]; exact K0.out.own2
  have hBF : Below w.heap.size w WF := by rw [hWF]; exact Below.set2 HBL.out (by omega)
  have HE : Hid (ReadResI w WF (.returned (.tuple #[.agg #[.bool false, .slice none 0 0], .slice none 0 0, .bool false])) false 0 0 g) := ⟨_, _, rfl, isInt_zero _, byt_nil _ _, hBF⟩
  have e0 := kq.cell0
  have e1 := kq.cell1
  clear hWF
  exact bodyPost_ret (v := .tuple #[.agg #[.bool false, .slice none 0 0], .slice none 0 0, .bool false]) (by simp [results, Tryz.results81, go_sem, e0, e1]) rfl HE.out

set_option maxRecDepth 100000 in
set_option maxHeartbeats 4000000 in
theorem wread_none_t (A : Option Addr) (n c : Nat) (f : Nat → Nat) (g : Nat → Nat) (w : World) (hb : Byt w (.slice A n c) n f) (hn : 0 < n) (hm : n ≤ 1000000) (hz : f 0 = 1) (hk : readB (tl f) (n - 1) = true) (hN : readN (tl f) (n - 1) = 0) : Calls Tryz.prog 81 #[.slice A n c] w fun e w' => ReadResI w w' e false 0 0 g := by
  obtain ⟨ad, rfl, hbl, hcell⟩ := hb.first hn
  have hcl := hb.rd.at_ (j := 0) hn
  have hlt : f 0 < 256 := by obtain ⟨_, _, _, _, _, h⟩ := hb; exact h 0 hn
  have h0 : ((n : Int) == 0) = false := by rw [beq_eq_false_iff_ne]; omega
  have hn0 : (0 : Int) < (n : Int) := by omega
  obtain ⟨B, hsl, hbt⟩ := hb.tail hn
  have HT := Lib.hid hbt
  rw [hz] at hcell hcl
  have HNm : Hid (n - 1 ≤ 1000000) := by show _ ≤ _; omega
  have RD := fun W (hW : Byt W (.slice B (n - 1) (c - 1)) (n - 1) (tl f)) => byt_read hW HNm.out
  rw [hk] at RD
  have HRD := Lib.hid RD
  have HN0 := Lib.hid hN
  clear hN
  generalize readN (tl f) (n - 1) = N at *
  generalize readM (tl f) (n - 1) = M at *
  generalize n - 1 = n' at *
  generalize c - 1 = c' at *
  clear hb hlt hz hk hbt RD
  go_enter Tryz.func81, Tryz.ntmps81
  go_wp2_with fail
  refine Calls.mono (behind_any true _) ?_
  rintro e w0 ⟨rfl, rfl⟩
  go_wp2_with fail
  refine Calls.mono (HRD.out _ ((HT.out.below (below_new w _)).below (below_new _ _))) ?_
  rintro e w1 ⟨va, vb, rfl, h1, h2, hb1⟩
  obtain ⟨A1, n1, c1, rfl, hn1, h1⟩ := isNat_form h1
  obtain ⟨B2, d2, rfl, h2⟩ := h2.form
  have hz1 : w.heap.size + 2 ≤ w1.heap.size := (by have hz := hb1.size; (try simp at hz); omega)
  have k0 := Blk.below (g := w.heap.size) (t := 24) (cs := #[.bool false, .slice none 0 0]) (by repeat (first | (with_reducible first | assumption | (refine Hid.out ?_; assumption) | apply Blk.drew_) | ((with_reducible refine Blk.new _ _ ?_ _ _) <;> (first | rfl | (simp; done))) | (with_reducible first | refine Blk.alloc_ ?_ _ | apply Blk.own2 | refine Blk.other2 ?_ (by omega) | (apply Blk.below; rotate_left; assumption)))) hb1
  obtain ⟨p0, q0, r0, s0, t0⟩ := k0.facts2
  have k1 := Blk.below (g := w.heap.size + 1) (t := 4) (cs := #[.bool true]) (by repeat (first | (with_reducible first | assumption | (refine Hid.out ?_; assumption) | apply Blk.drew_) | ((with_reducible refine Blk.new _ _ ?_ _ _) <;> (first | rfl | (simp; done))) | (with_reducible first | refine Blk.alloc_ ?_ _ | apply Blk.own2 | refine Blk.other2 ?_ (by omega) | (apply Blk.below; rotate_left; assumption)))) hb1
  have p1 := k1.cell 0
  have HBL := Lib.hid (show Below w.heap.size w w1 from (by repeat first | exact Below.refl _ _ | (with_reducible refine Below.trans ?_ (Below.mono (by with_reducible assumption) ?_)) | (with_reducible refine Below.alloc_ ?_ ?_ _) | (with_reducible refine Below.drew ?_) | (with_reducible refine Below.set2 ?_ ?_) | exact Nat.le_refl _ | omega | focus (simp <;> omega)))
  have hcw : w1.cell? ad = some (.int .u8 1) := by
    have := HBL.out.cell (p := ad) hbl
    rw [this]; exact hcell
  have hcw2 : w1.cell? (ad.add 0) = some (.int .u8 1) := by rw [show ad.add 0 = ad from rfl]; exact hcw
  have hbl1 : ad.block < w1.heap.size := by omega
  have K0 := Lib.hid k0
  have H2 := Lib.hid h2
  clear k0 hb1 q0 HRD hsl hcell hcl h2 k1
  have hlen : n1 = 0 := by have := HN0.out; omega
  subst hlen
  have CL := Lib.hid (behind1_any true (w.heap.size + 1) A1 0 c1 w1 p1 false rfl)
  go_wp2_with fail
  refine CL.out.mono ?_
  rintro e w2 ⟨rfl, hw2⟩
  subst w2
  clear CL
  go_wp2
  obtain ⟨WF, hWF⟩ : ∃ W, W = (w1.setCell ⟨w.heap.size, 0, none⟩ (.bool false)).setCell ⟨w.heap.size, 1, none⟩ (.slice none 0 0) := ⟨_, rfl⟩
  rw [← hWF]
  have kq : Blk WF (w.heap.size) 24 #[.bool false, .slice none 0 0] := by rw [hWF]; exact K0.out.own2
  have hBF : Below w.heap.size w WF := by rw [hWF]; exact Below.set2 HBL.out (by omega)
  have HE : Hid (ReadResI w WF (.returned (.tuple #[.agg #[.bool false, .slice none 0 0], .slice none 0 0, .bool false])) false 0 0 g) := ⟨_, _, rfl, isInt_zero _, byt_nil _ _, hBF⟩
  have e0 := kq.cell0
  have e1 := kq.cell1
  clear hWF
  exact bodyPost_ret (v := .tuple #[.agg #[.bool false, .slice none 0 0], .slice none 0 0, .bool false]) (by simp [results, Tryz.results81, go_sem, e0, e1]) rfl HE.out

set_option maxRecDepth 100000 in
set_option maxHeartbeats 4000000 in
theorem wread_yes_f (A : Option Addr) (n c : Nat) (f : Nat → Nat) (w : World) (hb : Byt w (.slice A n c) n f) (hn : 0 < n) (hm : n ≤ 1000000) (hz : f 0 = 0) (hk : readB (tl f) (n - 1) = true) : Calls Tryz.prog 81 #[.slice A n c] w fun e w' => ReadResI w w' e true (sg false (readN (tl f) (n - 1))) (readM (tl f) (n - 1)) (readG (tl f)) := by
  obtain ⟨ad, rfl, hbl, hcell⟩ := hb.first hn
  have hcl := hb.rd.at_ (j := 0) hn
  have hlt : f 0 < 256 := by obtain ⟨_, _, _, _, _, h⟩ := hb; exact h 0 hn
  have h0 : ((n : Int) == 0) = false := by rw [beq_eq_false_iff_ne]; omega
  have hn0 : (0 : Int) < (n : Int) := by omega
  obtain ⟨B, hsl, hbt⟩ := hb.tail hn
  have HT := Lib.hid hbt
  rw [hz] at hcell hcl
  have HNm : Hid (n - 1 ≤ 1000000) := by show _ ≤ _; omega
  have RD := fun W (hW : Byt W (.slice B (n - 1) (c - 1)) (n - 1) (tl f)) => byt_read hW HNm.out
  rw [hk] at RD
  have HRD := Lib.hid RD
  generalize readN (tl f) (n - 1) = N at *
  generalize readM (tl f) (n - 1) = M at *
  generalize n - 1 = n' at *
  generalize c - 1 = c' at *
  clear hb hlt hz hk hbt RD
  go_enter Tryz.func81, Tryz.ntmps81
  go_wp2_with fail
  refine Calls.mono (behind_any false _) ?_
  rintro e w0 ⟨rfl, rfl⟩
  go_wp2_with fail
  refine Calls.mono (HRD.out _ ((HT.out.below (below_new w _)).below (below_new _ _))) ?_
  rintro e w1 ⟨va, vb, rfl, h1, h2, hb1⟩
  obtain ⟨A1, n1, c1, rfl, hn1, h1⟩ := isNat_form h1
  obtain ⟨B2, d2, rfl, h2⟩ := h2.form
  have hz1 : w.heap.size + 2 ≤ w1.heap.size := (by have hz := hb1.size; (try simp at hz); omega)
  have k0 := Blk.below (g := w.heap.size) (t := 24) (cs := #[.bool false, .slice none 0 0]) (by repeat (first | (with_reducible first | assumption | (refine Hid.out ?_; assumption) | apply Blk.drew_) | ((with_reducible refine Blk.new _ _ ?_ _ _) <;> (first | rfl | (simp; done))) | (with_reducible first | refine Blk.alloc_ ?_ _ | apply Blk.own2 | refine Blk.other2 ?_ (by omega) | (apply Blk.below; rotate_left; assumption)))) hb1
  obtain ⟨p0, q0, r0, s0, t0⟩ := k0.facts2
  have k1 := Blk.below (g := w.heap.size + 1) (t := 4) (cs := #[.bool false]) (by repeat (first | (with_reducible first | assumption | (refine Hid.out ?_; assumption) | apply Blk.drew_) | ((with_reducible refine Blk.new _ _ ?_ _ _) <;> (first | rfl | (simp; done))) | (with_reducible first | refine Blk.alloc_ ?_ _ | apply Blk.own2 | refine Blk.other2 ?_ (by omega) | (apply Blk.below; rotate_left; assumption)))) hb1
  have p1 := k1.cell 0
  have HBL := Lib.hid (show Below w.heap.size w w1 from (by repeat first | exact Below.refl _ _ | (with_reducible refine Below.trans ?_ (Below.mono (by with_reducible assumption) ?_)) | (with_reducible refine Below.alloc_ ?_ ?_ _) | (with_reducible refine Below.drew ?_) | (with_reducible refine Below.set2 ?_ ?_) | exact Nat.le_refl _ | omega | focus (simp <;> omega)))
  have hcw : w1.cell? ad = some (.int .u8 0) := by
    have := HBL.out.cell (p := ad) hbl
    rw [this]; exact hcell
  have hcw2 : w1.cell? (ad.add 0) = some (.int .u8 0) := by rw [show ad.add 0 = ad from rfl]; exact hcw
  have hbl1 : ad.block < w1.heap.size := by omega
  have K0 := Lib.hid k0
  have H2 := Lib.hid h2
  clear k0 hb1 q0 HRD hsl hcell hcl h2 k1
  have CL := Lib.hid (behind1_any false (w.heap.size + 1) A1 n1 c1 w1 p1 true rfl)
  go_wp2_with fail
  refine CL.out.mono ?_
  rintro e w2 ⟨rfl, hw2⟩
  subst w2
  clear CL
  go_wp2
  obtain ⟨WF, hWF⟩ : ∃ W, W = (w1.setCell ⟨w.heap.size, 0, none⟩ (.bool false)).setCell ⟨w.heap.size, 1, none⟩ (.slice A1 n1 c1) := ⟨_, rfl⟩
  rw [← hWF]
  have kq : Blk WF (w.heap.size) 24 #[.bool false, .slice A1 n1 c1] := by rw [hWF]; exact K0.out.own2
  have hBF : Below w.heap.size w WF := by rw [hWF]; exact Below.set2 HBL.out (by omega)
  have hI : IsNat WF (.slice A1 n1 c1) (N) := by rw [hWF]; exact h1.other2 K0.out
  have hG : Byt WF (.slice B2 M d2) M (readG (tl f)) := by rw [hWF]; exact H2.out.other2 K0.out
  have hII : IsInt WF (.agg #[.bool false, .slice A1 n1 c1]) (sg false N) := by
    have := isInt_sg (b := false) hI
    rwa [show (false && decide (0 < N)) = false from rfl] at this
  have HE : Hid (ReadResI w WF (.returned (.tuple #[.agg #[.bool false, .slice A1 n1 c1], .slice B2 M d2, .bool true])) true (sg false N) M (readG (tl f))) := ⟨_, _, rfl, hII, hG, hBF⟩
  have e0 := kq.cell0
  have e1 := kq.cell1
  clear hWF
  exact bodyPost_ret (v := .tuple #[.agg #[.bool false, .slice A1 n1 c1], .slice B2 M d2, .bool true]) (by simp [results, Tryz.results81, go_sem, e0, e1]) rfl HE.out

set_option maxRecDepth 100000 in
set_option maxHeartbeats 4000000 in
theorem wread_yes_t (A : Option Addr) (n c : Nat) (f : Nat → Nat) (w : World) (hb : Byt w (.slice A n c) n f) (hn : 0 < n) (hm : n ≤ 1000000) (hz : f 0 = 1) (hk : readB (tl f) (n - 1) = true) (hN : 0 < readN (tl f) (n - 1)) : Calls Tryz.prog 81 #[.slice A n c] w fun e w' => ReadResI w w' e true (sg true (readN (tl f) (n - 1))) (readM (tl f) (n - 1)) (readG (tl f)) := by
  obtain ⟨ad, rfl, hbl, hcell⟩ := hb.first hn
  have hcl := hb.rd.at_ (j := 0) hn
  have hlt : f 0 < 256 := by obtain ⟨_, _, _, _, _, h⟩ := hb; exact h 0 hn
  have h0 : ((n : Int) == 0) = false := by rw [beq_eq_false_iff_ne]; omega
  have hn0 : (0 : Int) < (n : Int) := by omega
  obtain ⟨B, hsl, hbt⟩ := hb.tail hn
  have HT := Lib.hid hbt
  rw [hz] at hcell hcl
  have HNm : Hid (n - 1 ≤ 1000000) := by show _ ≤ _; omega
  have RD := fun W (hW : Byt W (.slice B (n - 1) (c - 1)) (n - 1) (tl f)) => byt_read hW HNm.out
  rw [hk] at RD
  have HRD := Lib.hid RD
  have HN0 := Lib.hid hN
  clear hN
  generalize readN (tl f) (n - 1) = N at *
  generalize readM (tl f) (n - 1) = M at *
  generalize n - 1 = n' at *
  generalize c - 1 = c' at *
  clear hb hlt hz hk hbt RD
  go_enter Tryz.func81, Tryz.ntmps81
  go_wp2_with fail
  refine Calls.mono (behind_any true _) ?_
  rintro e w0 ⟨rfl, rfl⟩
  go_wp2_with fail
  refine Calls.mono (HRD.out _ ((HT.out.below (below_new w _)).below (below_new _ _))) ?_
  rintro e w1 ⟨va, vb, rfl, h1, h2, hb1⟩
  obtain ⟨A1, n1, c1, rfl, hn1, h1⟩ := isNat_form h1
  obtain ⟨B2, d2, rfl, h2⟩ := h2.form
  have hz1 : w.heap.size + 2 ≤ w1.heap.size := (by have hz := hb1.size; (try simp at hz); omega)
  have k0 := Blk.below (g := w.heap.size) (t := 24) (cs := #[.bool false, .slice none 0 0]) (by repeat (first | (with_reducible first | assumption | (refine Hid.out ?_; assumption) | apply Blk.drew_) | ((with_reducible refine Blk.new _ _ ?_ _ _) <;> (first | rfl | (simp; done))) | (with_reducible first | refine Blk.alloc_ ?_ _ | apply Blk.own2 | refine Blk.other2 ?_ (by omega) | (apply Blk.below; rotate_left; assumption)))) hb1
  obtain ⟨p0, q0, r0, s0, t0⟩ := k0.facts2
  have k1 := Blk.below (g := w.heap.size + 1) (t := 4) (cs := #[.bool true]) (by repeat (first | (with_reducible first | assumption | (refine Hid.out ?_; assumption) | apply Blk.drew_) | ((with_reducible refine Blk.new _ _ ?_ _ _) <;> (first | rfl | (simp; done))) | (with_reducible first | refine Blk.alloc_ ?_ _ | apply Blk.own2 | refine Blk.other2 ?_ (by omega) | (apply Blk.below; rotate_left; assumption)))) hb1
  have p1 := k1.cell 0
  have HBL := Lib.hid (show Below w.heap.size w w1 from (by repeat first | exact Below.refl _ _ | (with_reducible refine Below.trans ?_ (Below.mono (by with_reducible assumption) ?_)) | (with_reducible refine Below.alloc_ ?_ ?_ _) | (with_reducible refine Below.drew ?_) | (with_reducible refine Below.set2 ?_ ?_) | exact Nat.le_refl _ | omega | focus (simp <;> omega)))
  have hcw : w1.cell? ad = some (.int .u8 1) := by
    have := HBL.out.cell (p := ad) hbl
    rw [this]; exact hcell
  have hcw2 : w1.cell? (ad.add 0) = some (.int .u8 1) := by rw [show ad.add 0 = ad from rfl]; exact hcw
  have hbl1 : ad.block < w1.heap.size := by omega
  have K0 := Lib.hid k0
  have H2 := Lib.hid h2
  clear k0 hb1 q0 HRD hsl hcell hcl h2 k1
  have hlen : 0 < n1 := by have := HN0.out; omega
  have CL := Lib.hid (behind1_any true (w.heap.size + 1) A1 n1 c1 w1 p1 true (by rw [decide_eq_true hlen]; rfl))
  go_wp2_with fail
  refine CL.out.mono ?_
  rintro e w2 ⟨rfl, hw2⟩
  subst w2
  clear CL
  go_wp2
  obtain ⟨WF, hWF⟩ : ∃ W, W = (w1.setCell ⟨w.heap.size, 0, none⟩ (.bool true)).setCell ⟨w.heap.size, 1, none⟩ (.slice A1 n1 c1) := ⟨_, rfl⟩
  rw [← hWF]
  have kq : Blk WF (w.heap.size) 24 #[.bool true, .slice A1 n1 c1] := by rw [hWF]; exact K0.out.own2
  have hBF : Below w.heap.size w WF := by rw [hWF]; exact Below.set2 HBL.out (by omega)
  have hI : IsNat WF (.slice A1 n1 c1) (N) := by rw [hWF]; exact h1.other2 K0.out
  have hG : Byt WF (.slice B2 M d2) M (readG (tl f)) := by rw [hWF]; exact H2.out.other2 K0.out
  have hII : IsInt WF (.agg #[.bool true, .slice A1 n1 c1]) (sg true N) := by
    have := isInt_sg (b := true) hI
    rwa [show (true && decide (0 < N)) = true from by rw [decide_eq_true HN0.out]; rfl] at this
  have HE : Hid (ReadResI w WF (.returned (.tuple #[.agg #[.bool true, .slice A1 n1 c1], .slice B2 M d2, .bool true])) true (sg true N) M (readG (tl f))) := ⟨_, _, rfl, hII, hG, hBF⟩
  have e0 := kq.cell0
  have e1 := kq.cell1
  clear hWF
  exact bodyPost_ret (v := .tuple #[.agg #[.bool true, .slice A1 n1 c1], .slice B2 M d2, .bool true]) (by simp [results, Tryz.results81, go_sem, e0, e1]) rfl HE.out

set_option maxHeartbeats 1000000 in
theorem rread_empty (A : Option Addr) (n c : Nat) (g : Nat → Nat) (w : World) (hn : n = 0) : Calls Tryz.prog 83 #[.slice A n c] w fun e w' => ReadResI w w' e false 0 0 g := by
  have h0 : ((n : Int) == 0) = true := by rw [beq_iff_eq]; omega
  clear hn
  go_enter Tryz.func83, Tryz.ntmps83
  have k0 : Blk (w.alloc (.cells #[.bool false, .slice none 0 0] 24)) w.heap.size 24 #[.bool false, .slice none 0 0] := Blk.new _ _ rfl _ _
  have K0 := Lib.hid k0
  have HB0 := Lib.hid (below_new w (.cells #[.bool false, .slice none 0 0] 24))
  obtain ⟨p0, q0, r0, s0, t0⟩ := k0.facts2
  clear k0
  go_wp2
  exact bodyPost_ret (v := .tuple #[.agg #[.bool false, .slice none 0 0], .slice none 0 0, .bool false]) (by simp [results, Tryz.results83, go_sem, p0, q0]) rfl ⟨_, _, rfl, isInt_zero _, byt_nil _ _, HB0.out⟩

set_option maxRecDepth 100000 in
set_option maxHeartbeats 4000000 in
theorem rread_odd (A : Option Addr) (n c : Nat) (f : Nat → Nat) (g : Nat → Nat) (w : World) (hb : Byt w (.slice A n c) n f) (hn : 0 < n) (hm : n ≤ 1000000) (hz : 1 < f 0) : Calls Tryz.prog 83 #[.slice A n c] w fun e w' => ReadResI w w' e false 0 0 g := by
  obtain ⟨ad, rfl, hbl, hcell⟩ := hb.first hn
  have hcl := hb.rd.at_ (j := 0) hn
  have hlt : f 0 < 256 := by obtain ⟨_, _, _, _, _, h⟩ := hb; exact h 0 hn
  have h0 : ((n : Int) == 0) = false := by rw [beq_eq_false_iff_ne]; omega
  have hn0 : (0 : Int) < (n : Int) := by omega
  obtain ⟨y, hy⟩ : ∃ y, y = f 0 := ⟨_, rfl⟩
  rw [← hy] at hcell hcl hz hlt
  have y0 : ((y : Int) != 0) = true := by rw [bne_iff_ne]; omega
  have y1 : ((y : Int) != 1) = true := by rw [bne_iff_ne]; omega
  have y2 : (1 : Int) < (y : Int) := by omega
  clear hb hz hlt hy
  go_enter Tryz.func83, Tryz.ntmps83
  have k0 : Blk (w.alloc (.cells #[.bool false, .slice none 0 0] 24)) w.heap.size 24 #[.bool false, .slice none 0 0] := Blk.new _ _ rfl _ _
  have K0 := Lib.hid k0
  have HB0 := Lib.hid (below_new w (.cells #[.bool false, .slice none 0 0] 24))
  obtain ⟨p0, q0, r0, s0, t0⟩ := k0.facts2
  clear k0
  go_wp2
  exact bodyPost_ret (v := .tuple #[.agg #[.bool false, .slice none 0 0], .slice none 0 0, .bool false]) (by simp [results, Tryz.results83, go_sem, p0, q0]) rfl ⟨_, _, rfl, isInt_zero _, byt_nil _ _, HB0.out⟩

set_option maxRecDepth 100000 in
set_option maxHeartbeats 4000000 in
theorem rread_no_f (A : Option Addr) (n c : Nat) (f : Nat → Nat) (g : Nat → Nat) (w : World) (hb : Byt w (.slice A n c) n f) (hn : 0 < n) (hm : n ≤ 1000000) (hz : f 0 = 0) (hk : readB (tl f) (n - 1) = false) : Calls Tryz.prog 83 #[.slice A n c] w fun e w' => ReadResI w w' e false 0 0 g := by
  obtain ⟨ad, rfl, hbl, hcell⟩ := hb.first hn
  have hcl := hb.rd.at_ (j := 0) hn
  have hlt : f 0 < 256 := by obtain ⟨_, _, _, _, _, h⟩ := hb; exact h 0 hn
  have h0 : ((n : Int) == 0) = false := by rw [beq_eq_false_iff_ne]; omega
  have hn0 : (0 : Int) < (n : Int) := by omega
  obtain ⟨B, hsl, hbt⟩ := hb.tail hn
  have HT := Lib.hid hbt
  rw [hz] at hcell hcl
  have HNm : Hid (n - 1 ≤ 1000000) := by show _ ≤ _; omega
  have RD := fun W (hW : Byt W (.slice B (n - 1) (c - 1)) (n - 1) (tl f)) => byt_rread hW HNm.out
  rw [hk] at RD
  have HRD := Lib.hid RD
  generalize readN (tl f) (n - 1) = N at *
  generalize readM (tl f) (n - 1) = M at *
  generalize n - 1 = n' at *
  generalize c - 1 = c' at *
  clear hb hlt hz hk hbt RD
  go_enter Tryz.func83, Tryz.ntmps83
  go_wp2_with fail
  refine Calls.mono (HRD.out _ (HT.out.below (below_new w _))) ?_
  rintro e w1 ⟨va, vb, rfl, h1, h2, hb1⟩
  obtain ⟨A1, n1, c1, rfl, hn1, h1⟩ := isNat_form h1
  obtain ⟨B2, d2, rfl, h2⟩ := h2.form
  have hz1 : w.heap.size + 1 ≤ w1.heap.size := (by have hz := hb1.size; (try simp at hz); omega)
  have k0 := Blk.below (g := w.heap.size) (t := 24) (cs := #[.bool false, .slice none 0 0]) (by repeat (first | (with_reducible first | assumption | (refine Hid.out ?_; assumption) | apply Blk.drew_) | ((with_reducible refine Blk.new _ _ ?_ _ _) <;> (first | rfl | (simp; done))) | (with_reducible first | refine Blk.alloc_ ?_ _ | apply Blk.own2 | refine Blk.other2 ?_ (by omega) | (apply Blk.below; rotate_left; assumption)))) hb1
  obtain ⟨p0, q0, r0, s0, t0⟩ := k0.facts2
  have HBL := Lib.hid (show Below w.heap.size w w1 from (by repeat first | exact Below.refl _ _ | (with_reducible refine Below.trans ?_ (Below.mono (by with_reducible assumption) ?_)) | (with_reducible refine Below.alloc_ ?_ ?_ _) | (with_reducible refine Below.drew ?_) | (with_reducible refine Below.set2 ?_ ?_) | exact Nat.le_refl _ | omega | focus (simp <;> omega)))
  have hcw : w1.cell? ad = some (.int .u8 0) := by
    have := HBL.out.cell (p := ad) hbl
    rw [this]; exact hcell
  have hcw2 : w1.cell? (ad.add 0) = some (.int .u8 0) := by rw [show ad.add 0 = ad from rfl]; exact hcw
  have hbl1 : ad.block < w1.heap.size := by omega
  have K0 := Lib.hid k0
  have H2 := Lib.hid h2
  clear k0 hb1 q0 HRD hsl hcell hcl h2 
  go_wp2
  obtain ⟨WF, hWF⟩ : ∃ W, W = (w1.setCell ⟨w.heap.size, 0, none⟩ (.bool false)).setCell ⟨w.heap.size, 1, none⟩ (.slice none 0 0) := ⟨_, rfl⟩
  rw [← hWF]
  have kq : Blk WF (w.heap.size) 24 #[.bool false, .slice none 0 0] := by rw [hWF]; exact K0.out.own2
  have hBF : Below w.heap.size w WF := by rw [hWF]; exact Below.set2 HBL.out (by omega)
  have HE : Hid (ReadResI w WF (.returned (.tuple #[.agg #[.bool false, .slice none 0 0], .slice none 0 0, .bool false])) false 0 0 g) := ⟨_, _, rfl, isInt_zero _, byt_nil _ _, hBF⟩
  have e0 := kq.cell0
  have e1 := kq.cell1
  clear hWF
  exact bodyPost_ret (v := .tuple #[.agg #[.bool false, .slice none 0 0], .slice none 0 0, .bool false]) (by simp [results, Tryz.results83, go_sem, e0, e1]) rfl HE.out

set_option maxRecDepth 100000 in
set_option maxHeartbeats 4000000 in
theorem rread_no_t (A : Option Addr) (n c : Nat) (f : Nat → Nat) (g : Nat → Nat) (w : World) (hb : Byt w (.slice A n c) n f) (hn : 0 < n) (hm : n ≤ 1000000) (hz : f 0 = 1) (hk : readB (tl f) (n - 1) = false) : Calls Tryz.prog 83 #[.slice A n c] w fun e w' => ReadResI w w' e false 0 0 g := by
  obtain ⟨ad, rfl, hbl, hcell⟩ := hb.first hn
  have hcl := hb.rd.at_ (j := 0) hn
  have hlt : f 0 < 256 := by obtain ⟨_, _, _, _, _, h⟩ := hb; exact h 0 hn
  have h0 : ((n : Int) == 0) = false := by rw [beq_eq_false_iff_ne]; omega
  have hn0 : (0 : Int) < (n : Int) := by omega
  obtain ⟨B, hsl, hbt⟩ := hb.tail hn
  have HT := Lib.hid hbt
  rw [hz] at hcell hcl
  have HNm : Hid (n - 1 ≤ 1000000) := by show _ ≤ _; omega
  have RD := fun W (hW : Byt W (.slice B (n - 1) (c - 1)) (n - 1) (tl f)) => byt_rread hW HNm.out
  rw [hk] at RD
  have HRD := Lib.hid RD
  generalize readN (tl f) (n - 1) = N at *
  generalize readM (tl f) (n - 1) = M at *
  generalize n - 1 = n' at *
  generalize c - 1 = c' at *
  clear hb hlt hz hk hbt RD
  go_enter Tryz.func83, Tryz.ntmps83
  go_wp2_with fail
  refine Calls.mono (HRD.out _ (HT.out.below (below_new w _))) ?_
  rintro e w1 ⟨va, vb, rfl, h1, h2, hb1⟩
  obtain ⟨A1, n1, c1, rfl, hn1, h1⟩ := isNat_form h1
  obtain ⟨B2, d2, rfl, h2⟩ := h2.form
  have hz1 : w.heap.size + 1 ≤ w1.heap.size := (by have hz := hb1.size; (try simp at hz); omega)
  have k0 := Blk.below (g := w.heap.size) (t := 24) (cs := #[.bool false, .slice none 0 0]) (by repeat (first | (with_reducible first | assumption | (refine Hid.out ?_; assumption) | apply Blk.drew_) | ((with_reducible refine Blk.new _ _ ?_ _ _) <;> (first | rfl | (simp; done))) | (with_reducible first | refine Blk.alloc_ ?_ _ | apply Blk.own2 | refine Blk.other2 ?_ (by omega) | (apply Blk.below; rotate_left; assumption)))) hb1
  obtain ⟨p0, q0, r0, s0, t0⟩ := k0.facts2
  have HBL := Lib.hid (show Below w.heap.size w w1 from (by repeat first | exact Below.refl _ _ | (with_reducible refine Below.trans ?_ (Below.mono (by with_reducible assumption) ?_)) | (with_reducible refine Below.alloc_ ?_ ?_ _) | (with_reducible refine Below.drew ?_) | (with_reducible refine Below.set2 ?_ ?_) | exact Nat.le_refl _ | omega | focus (simp <;> omega)))
  have hcw : w1.cell? ad = some (.int .u8 1) := by
    have := HBL.out.cell (p := ad) hbl
    rw [this]; exact hcell
  have hcw2 : w1.cell? (ad.add 0) = some (.int .u8 1) := by rw [show ad.add 0 = ad from rfl]; exact hcw
  have hbl1 : ad.block < w1.heap.size := by omega
  have K0 := Lib.hid k0
  have H2 := Lib.hid h2
  clear k0 hb1 q0 HRD hsl hcell hcl h2 
  go_wp2
  obtain ⟨WF, hWF⟩ : ∃ W, W = (w1.setCell ⟨w.heap.size, 0, none⟩ (.bool false)).setCell ⟨w.heap.size, 1, none⟩ (.slice none 0 0) := ⟨_, rfl⟩
  rw [← hWF]
  have kq : Blk WF (w.heap.size) 24 #[.bool false, .slice none 0 0] := by rw [hWF]; exact K0.out.own2
  have hBF : Below w.heap.size w WF := by rw [hWF]; exact Below.set2 HBL.out (by omega)
  have HE : Hid (ReadResI w WF (.returned (.tuple #[.agg #[.bool false, .slice none 0 0], .slice none 0 0, .bool false])) false 0 0 g) := ⟨_, _, rfl, isInt_zero _, byt_nil _ _, hBF⟩
  have e0 := kq.cell0
  have e1 := kq.cell1
  clear hWF
  exact bodyPost_ret (v := .tuple #[.agg #[.bool false, .slice none 0 0], .slice none 0 0, .bool false]) (by simp [results, Tryz.results83, go_sem, e0, e1]) rfl HE.out

set_option maxRecDepth 100000 in
set_option maxHeartbeats 4000000 in
theorem rread_none_t (A : Option Addr) (n c : Nat) (f : Nat → Nat) (g : Nat → Nat) (w : World) (hb : Byt w (.slice A n c) n f) (hn : 0 < n) (hm : n ≤ 1000000) (hz : f 0 = 1) (hk : readB (tl f) (n - 1) = true) (hN : readN (tl f) (n - 1) = 0) : Calls Tryz.prog 83 #[.slice A n c] w fun e w' => ReadResI w w' e false 0 0 g := by
  obtain ⟨ad, rfl, hbl, hcell⟩ := hb.first hn
  have hcl := hb.rd.at_ (j := 0) hn
  have hlt : f 0 < 256 := by obtain ⟨_, _, _, _, _, h⟩ := hb; exact h 0 hn
  have h0 : ((n : Int) == 0) = false := by rw [beq_eq_false_iff_ne]; omega
  have hn0 : (0 : Int) < (n : Int) := by omega
  obtain ⟨B, hsl, hbt⟩ := hb.tail hn
  have HT := Lib.hid hbt
  rw [hz] at hcell hcl
  have HNm : Hid (n - 1 ≤ 1000000) := by show _ ≤ _; omega
  have RD := fun W (hW : Byt W (.slice B (n - 1) (c - 1)) (n - 1) (tl f)) => byt_rread hW HNm.out
  rw [hk] at RD
  have HRD := Lib.hid RD
  have HN0 := Lib.hid hN
  clear hN
  generalize readN (tl f) (n - 1) = N at *
  generalize readM (tl f) (n - 1) = M at *
  generalize n - 1 = n' at *
  generalize c - 1 = c' at *
  clear hb hlt hz hk hbt RD
  go_enter Tryz.func83, Tryz.ntmps83
  go_wp2_with fail
  refine Calls.mono (HRD.out _ (HT.out.below (below_new w _))) ?_
  rintro e w1 ⟨va, vb, rfl, h1, h2, hb1⟩
  obtain ⟨A1, n1, c1, rfl, hn1, h1⟩ := isNat_form h1
  obtain ⟨B2, d2, rfl, h2⟩ := h2.form
  have hz1 : w.heap.size + 1 ≤ w1.heap.size := (by have hz := hb1.size; (try simp at hz); omega)
  have k0 := Blk.below (g := w.heap.size) (t := 24) (cs := #[.bool false, .slice none 0 0]) (by repeat (first | (with_reducible first | assumption | (refine Hid.out ?_; assumption) | apply Blk.drew_) | ((with_reducible refine Blk.new _ _ ?_ _ _) <;> (first | rfl | (simp; done))) | (with_reducible first | refine Blk.alloc_ ?_ _ | apply Blk.own2 | refine Blk.other2 ?_ (by omega) | (apply Blk.below; rotate_left; assumption)))) hb1
  obtain ⟨p0, q0, r0, s0, t0⟩ := k0.facts2
  have HBL := Lib.hid (show Below w.heap.size w w1 from (by repeat first | exact Below.refl _ _ | (with_reducible refine Below.trans ?_ (Below.mono (by with_reducible assumption) ?_)) | (with_reducible refine Below.alloc_ ?_ ?_ _) | (with_reducible refine Below.drew ?_) | (with_reducible refine Below.set2 ?_ ?_) | exact Nat.le_refl _ | omega | focus (simp <;> omega)))
  have hcw : w1.cell? ad = some (.int .u8 1) := by
    have := HBL.out.cell (p := ad) hbl
    rw [this]; exact hcell
  have hcw2 : w1.cell? (ad.add 0) = some (.int .u8 1) := by rw [show ad.add 0 = ad from rfl]; exact hcw
  have hbl1 : ad.block < w1.heap.size := by omega
  have K0 := Lib.hid k0
  have H2 := Lib.hid h2
  clear k0 hb1 q0 HRD hsl hcell hcl h2 
  have hlen : n1 = 0 := by have := HN0.out; omega
  have hl0 : ((n1 : Int) == 0) = true := by rw [beq_iff_eq]; omega
  clear hlen
  go_wp2
  obtain ⟨WF, hWF⟩ : ∃ W, W = (w1.setCell ⟨w.heap.size, 0, none⟩ (.bool false)).setCell ⟨w.heap.size, 1, none⟩ (.slice none 0 0) := ⟨_, rfl⟩
  rw [← hWF]
  have kq : Blk WF (w.heap.size) 24 #[.bool false, .slice none 0 0] := by rw [hWF]; exact K0.out.own2
  have hBF : Below w.heap.size w WF := by rw [hWF]; exact Below.set2 HBL.out (by omega)
  have HE : Hid (ReadResI w WF (.returned (.tuple #[.agg #[.bool false, .slice none 0 0], .slice none 0 0, .bool false])) false 0 0 g) := ⟨_, _, rfl, isInt_zero _, byt_nil _ _, hBF⟩
  have e0 := kq.cell0
  have e1 := kq.cell1
  clear hWF
  exact bodyPost_ret (v := .tuple #[.agg #[.bool false, .slice none 0 0], .slice none 0 0, .bool false]) (by simp [results, Tryz.results83, go_sem, e0, e1]) rfl HE.out

set_option maxRecDepth 100000 in
set_option maxHeartbeats 4000000 in
theorem rread_yes_f (A : Option Addr) (n c : Nat) (f : Nat → Nat) (w : World) (hb : Byt w (.slice A n c) n f) (hn : 0 < n) (hm : n ≤ 1000000) (hz : f 0 = 0) (hk : readB (tl f) (n - 1) = true) : Calls Tryz.prog 83 #[.slice A n c] w fun e w' => ReadResI w w' e true (sg false (readN (tl f) (n - 1))) (readM (tl f) (n - 1)) (readG (tl f)) := by
  obtain ⟨ad, rfl, hbl, hcell⟩ := hb.first hn
  have hcl := hb.rd.at_ (j := 0) hn
  have hlt : f 0 < 256 := by obtain ⟨_, _, _, _, _, h⟩ := hb; exact h 0 hn
  have h0 : ((n : Int) == 0) = false := by rw [beq_eq_false_iff_ne]; omega
  have hn0 : (0 : Int) < (n : Int) := by omega
  obtain ⟨B, hsl, hbt⟩ := hb.tail hn
  have HT := Lib.hid hbt
  rw [hz] at hcell hcl
  have HNm : Hid (n - 1 ≤ 1000000) := by show _ ≤ _; omega
  have RD := fun W (hW : Byt W (.slice B (n - 1) (c - 1)) (n - 1) (tl f)) => byt_rread hW HNm.out
  rw [hk] at RD
  have HRD := Lib.hid RD
  generalize readN (tl f) (n - 1) = N at *
  generalize readM (tl f) (n - 1) = M at *
  generalize n - 1 = n' at *
  generalize c - 1 = c' at *
  clear hb hlt hz hk hbt RD
  go_enter Tryz.func83, Tryz.ntmps83
  go_wp2_with fail
  refine Calls.mono (HRD.out _ (HT.out.below (below_new w _))) ?_
  rintro e w1 ⟨va, vb, rfl, h1, h2, hb1⟩
  obtain ⟨A1, n1, c1, rfl, hn1, h1⟩ := isNat_form h1
  obtain ⟨B2, d2, rfl, h2⟩ := h2.form
  have hz1 : w.heap.size + 1 ≤ w1.heap.size := (by have hz := hb1.size; (try simp at hz); omega)
  have k0 := Blk.below (g := w.heap.size) (t := 24) (cs := #[.bool false, .slice none 0 0]) (by repeat (first | (with_reducible first | assumption | (refine Hid.out ?_; assumption) | apply Blk.drew_) | ((with_reducible refine Blk.new _ _ ?_ _ _) <;> (first | rfl | (simp; done))) | (with_reducible first | refine Blk.alloc_ ?_ _ | apply Blk.own2 | refine Blk.other2 ?_ (by omega) | (apply Blk.below; rotate_left; assumption)))) hb1
  obtain ⟨p0, q0, r0, s0, t0⟩ := k0.facts2
  have HBL := Lib.hid (show Below w.heap.size w w1 from (by repeat first | exact Below.refl _ _ | (with_reducible refine Below.trans ?_ (Below.mono (by with_reducible assumption) ?_)) | (with_reducible refine Below.alloc_ ?_ ?_ _) | (with_reducible refine Below.drew ?_) | (with_reducible refine Below.set2 ?_ ?_) | exact Nat.le_refl _ | omega | focus (simp <;> omega)))
  have hcw : w1.cell? ad = some (.int .u8 0) := by
    have := HBL.out.cell (p := ad) hbl
    rw [this]; exact hcell
  have hcw2 : w1.cell? (ad.add 0) = some (.int .u8 0) := by rw [show ad.add 0 = ad from rfl]; exact hcw
  have hbl1 : ad.block < w1.heap.size := by omega
  have K0 := Lib.hid k0
  have H2 := Lib.hid h2
  clear k0 hb1 q0 HRD hsl hcell hcl h2 
  go_wp2
  obtain ⟨WF, hWF⟩ : ∃ W, W = (w1.setCell ⟨w.heap.size, 0, none⟩ (.bool false)).setCell ⟨w.heap.size, 1, none⟩ (.slice A1 n1 c1) := ⟨_, rfl⟩
  rw [← hWF]
  have kq : Blk WF (w.heap.size) 24 #[.bool false, .slice A1 n1 c1] := by rw [hWF]; exact K0.out.own2
  have hBF : Below w.heap.size w WF := by rw [hWF]; exact Below.set2 HBL.out (by omega)
  have hI : IsNat WF (.slice A1 n1 c1) (N) := by rw [hWF]; exact h1.other2 K0.out
  have hG : Byt WF (.slice B2 M d2) M (readG (tl f)) := by rw [hWF]; exact H2.out.other2 K0.out
  have hII : IsInt WF (.agg #[.bool false, .slice A1 n1 c1]) (sg false N) := by
    have := isInt_sg (b := false) hI
    rwa [show (false && decide (0 < N)) = false from rfl] at this
  have HE : Hid (ReadResI w WF (.returned (.tuple #[.agg #[.bool false, .slice A1 n1 c1], .slice B2 M d2, .bool true])) true (sg false N) M (readG (tl f))) := ⟨_, _, rfl, hII, hG, hBF⟩
  have e0 := kq.cell0
  have e1 := kq.cell1
  clear hWF
  exact bodyPost_ret (v := .tuple #[.agg #[.bool false, .slice A1 n1 c1], .slice B2 M d2, .bool true]) (by simp [results, Tryz.results83, go_sem, e0, e1]) rfl HE.out

set_option maxRecDepth 100000 in
set_option maxHeartbeats 4000000 in
theorem rread_yes_t (A : Option Addr) (n c : Nat) (f : Nat → Nat) (w : World) (hb : Byt w (.slice A n c) n f) (hn : 0 < n) (hm : n ≤ 1000000) (hz : f 0 = 1) (hk : readB (tl f) (n - 1) = true) (hN : 0 < readN (tl f) (n - 1)) : Calls Tryz.prog 83 #[.slice A n c] w fun e w' => ReadResI w w' e true (sg true (readN (tl f) (n - 1))) (readM (tl f) (n - 1)) (readG (tl f)) := by
  obtain ⟨ad, rfl, hbl, hcell⟩ := hb.first hn
  have hcl := hb.rd.at_ (j := 0) hn
  have hlt : f 0 < 256 := by obtain ⟨_, _, _, _, _, h⟩ := hb; exact h 0 hn
  have h0 : ((n : Int) == 0) = false := by rw [beq_eq_false_iff_ne]; omega
  have hn0 : (0 : Int) < (n : Int) := by omega
  obtain ⟨B, hsl, hbt⟩ := hb.tail hn
  have HT := Lib.hid hbt
  rw [hz] at hcell hcl
  have HNm : Hid (n - 1 ≤ 1000000) := by show _ ≤ _; omega
  have RD := fun W (hW : Byt W (.slice B (n - 1) (c - 1)) (n - 1) (tl f)) => byt_rread hW HNm.out
  rw [hk] at RD
  have HRD := Lib.hid RD
  have HN0 := Lib.hid hN
  clear hN
  generalize readN (tl f) (n - 1) = N at *
  generalize readM (tl f) (n - 1) = M at *
  generalize n - 1 = n' at *
  generalize c - 1 = c' at *
  clear hb hlt hz hk hbt RD
  go_enter Tryz.func83, Tryz.ntmps83
  go_wp2_with fail
  refine Calls.mono (HRD.out _ (HT.out.below (below_new w _))) ?_
  rintro e w1 ⟨va, vb, rfl, h1, h2, hb1⟩
  obtain ⟨A1, n1, c1, rfl, hn1, h1⟩ := isNat_form h1
  obtain ⟨B2, d2, rfl, h2⟩ := h2.form
  have hz1 : w.heap.size + 1 ≤ w1.heap.size := (by have hz := hb1.size; (try simp at hz); omega)
  have k0 := Blk.below (g := w.heap.size) (t := 24) (cs := #[.bool false, .slice none 0 0]) (by repeat (first | (with_reducible first | assumption | (refine Hid.out ?_; assumption) | apply Blk.drew_) | ((with_reducible refine Blk.new _ _ ?_ _ _) <;> (first | rfl | (simp; done))) | (with_reducible first | refine Blk.alloc_ ?_ _ | apply Blk.own2 | refine Blk.other2 ?_ (by omega) | (apply Blk.below; rotate_left; assumption)))) hb1
  obtain ⟨p0, q0, r0, s0, t0⟩ := k0.facts2
  have HBL := Lib.hid (show Below w.heap.size w w1 from (by repeat first | exact Below.refl _ _ | (with_reducible refine Below.trans ?_ (Below.mono (by with_reducible assumption) ?_)) | (with_reducible refine Below.alloc_ ?_ ?_ _) | (with_reducible refine Below.drew ?_) | (with_reducible refine Below.set2 ?_ ?_) | exact Nat.le_refl _ | omega | focus (simp <;> omega)))
  have hcw : w1.cell? ad = some (.int .u8 1) := by
    have := HBL.out.cell (p := ad) hbl
    rw [this]; exact hcell
  have hcw2 : w1.cell? (ad.add 0) = some (.int .u8 1) := by rw [show ad.add 0 = ad from rfl]; exact hcw
  have hbl1 : ad.block < w1.heap.size := by omega
  have K0 := Lib.hid k0
  have H2 := Lib.hid h2
  clear k0 hb1 q0 HRD hsl hcell hcl h2 
  have hlen : 0 < n1 := by have := HN0.out; omega
  have hl0 : ((n1 : Int) == 0) = false := by rw [beq_eq_false_iff_ne]; omega
  go_wp2
  obtain ⟨WF, hWF⟩ : ∃ W, W = (w1.setCell ⟨w.heap.size, 0, none⟩ (.bool true)).setCell ⟨w.heap.size, 1, none⟩ (.slice A1 n1 c1) := ⟨_, rfl⟩
  rw [← hWF]
  have kq : Blk WF (w.heap.size) 24 #[.bool true, .slice A1 n1 c1] := by rw [hWF]; exact K0.out.own2
  have hBF : Below w.heap.size w WF := by rw [hWF]; exact Below.set2 HBL.out (by omega)
  have hI : IsNat WF (.slice A1 n1 c1) (N) := by rw [hWF]; exact h1.other2 K0.out
  have hG : Byt WF (.slice B2 M d2) M (readG (tl f)) := by rw [hWF]; exact H2.out.other2 K0.out
  have hII : IsInt WF (.agg #[.bool true, .slice A1 n1 c1]) (sg true N) := by
    have := isInt_sg (b := true) hI
    rwa [show (true && decide (0 < N)) = true from by rw [decide_eq_true HN0.out]; rfl] at this
  have HE : Hid (ReadResI w WF (.returned (.tuple #[.agg #[.bool true, .slice A1 n1 c1], .slice B2 M d2, .bool true])) true (sg true N) M (readG (tl f))) := ⟨_, _, rfl, hII, hG, hBF⟩
  have e0 := kq.cell0
  have e1 := kq.cell1
  clear hWF
  exact bodyPost_ret (v := .tuple #[.agg #[.bool true, .slice A1 n1 c1], .slice B2 M d2, .bool true]) (by simp [results, Tryz.results83, go_sem, e0, e1]) rfl HE.out

open Classical in
noncomputable def intRB (f : Nat → Nat) (n : Nat) : Bool := decide (0 < n ∧ f 0 ≤ 1 ∧ readB (tl f) (n - 1) = true ∧ (f 0 = 1 → 0 < readN (tl f) (n - 1)))
noncomputable def intRV (f : Nat → Nat) (n : Nat) : Int := if intRB f n then sg (decide (f 0 = 1)) (readN (tl f) (n - 1)) else 0
noncomputable def intRM (f : Nat → Nat) (n : Nat) : Nat := if intRB f n then readM (tl f) (n - 1) else 0
theorem intR_no {f : Nat → Nat} {n : Nat} (h : ¬ (0 < n ∧ f 0 ≤ 1 ∧ readB (tl f) (n - 1) = true ∧ (f 0 = 1 → 0 < readN (tl f) (n - 1)))) : intRB f n = false ∧ intRV f n = 0 ∧ intRM f n = 0 := by
  have e : intRB f n = false := by unfold intRB; exact decide_eq_false h
  unfold intRV intRM
  rw [e]
  exact ⟨rfl, rfl, rfl⟩
theorem intR_yes {f : Nat → Nat} {n : Nat} (h : 0 < n ∧ f 0 ≤ 1 ∧ readB (tl f) (n - 1) = true ∧ (f 0 = 1 → 0 < readN (tl f) (n - 1))) : intRB f n = true ∧ intRV f n = sg (decide (f 0 = 1)) (readN (tl f) (n - 1)) ∧ intRM f n = readM (tl f) (n - 1) := by
  have e : intRB f n = true := by unfold intRB; exact decide_eq_true h
  unfold intRV intRM
  rw [e]
  exact ⟨rfl, rfl, rfl⟩

theorem byt_readI {w : World} {v : Value} {n : Nat} {f : Nat → Nat} (h : Byt w v n f) (hn : n ≤ 1000000) : Calls Tryz.prog 81 #[v] w fun e w' => ReadResI w w' e (intRB f n) (intRV f n) (intRM f n) (readG (tl f)) := by
  obtain ⟨A, c, rfl, h⟩ := h.form
  by_cases hg : 0 < n ∧ f 0 ≤ 1 ∧ readB (tl f) (n - 1) = true ∧ (f 0 = 1 → 0 < readN (tl f) (n - 1))
  · obtain ⟨e1, e2, e3⟩ := intR_yes hg
    rw [e1, e2, e3]
    obtain ⟨h0, h1, h2, h3⟩ := hg
    by_cases hz : f 0 = 1
    · rw [decide_eq_true hz]
      exact wread_yes_t A n c f w h h0 hn hz h2 (h3 hz)
    · rw [decide_eq_false hz]
      exact wread_yes_f A n c f w h h0 hn (by omega) h2
  · obtain ⟨e1, e2, e3⟩ := intR_no hg
    rw [e1, e2, e3]
    by_cases h0 : n = 0
    · exact wread_empty A n c _ w h0
    · by_cases h1 : 1 < f 0
      · exact wread_odd A n c f _ w h (by omega) hn h1
      · by_cases hz : f 0 = 1
        · cases h2 : readB (tl f) (n - 1)
          · exact wread_no_t A n c f _ w h (by omega) hn hz h2
          · exact wread_none_t A n c f _ w h (by omega) hn hz h2 (Nat.eq_zero_of_not_pos fun h3 => hg ⟨by omega, by omega, h2, fun _ => h3⟩)
        · cases h2 : readB (tl f) (n - 1)
          · exact wread_no_f A n c f _ w h (by omega) hn (by omega) h2
          · exact absurd ⟨by omega, by omega, h2, fun h => absurd h hz⟩ hg

theorem byt_rreadI {w : World} {v : Value} {n : Nat} {f : Nat → Nat} (h : Byt w v n f) (hn : n ≤ 1000000) : Calls Tryz.prog 83 #[v] w fun e w' => ReadResI w w' e (intRB f n) (intRV f n) (intRM f n) (readG (tl f)) := by
  obtain ⟨A, c, rfl, h⟩ := h.form
  by_cases hg : 0 < n ∧ f 0 ≤ 1 ∧ readB (tl f) (n - 1) = true ∧ (f 0 = 1 → 0 < readN (tl f) (n - 1))
  · obtain ⟨e1, e2, e3⟩ := intR_yes hg
    rw [e1, e2, e3]
    obtain ⟨h0, h1, h2, h3⟩ := hg
    by_cases hz : f 0 = 1
    · rw [decide_eq_true hz]
      exact rread_yes_t A n c f w h h0 hn hz h2 (h3 hz)
    · rw [decide_eq_false hz]
      exact rread_yes_f A n c f w h h0 hn (by omega) h2
  · obtain ⟨e1, e2, e3⟩ := intR_no hg
    rw [e1, e2, e3]
    by_cases h0 : n = 0
    · exact rread_empty A n c _ w h0
    · by_cases h1 : 1 < f 0
      · exact rread_odd A n c f _ w h (by omega) hn h1
      · by_cases hz : f 0 = 1
        · cases h2 : readB (tl f) (n - 1)
          · exact rread_no_t A n c f _ w h (by omega) hn hz h2
          · exact rread_none_t A n c f _ w h (by omega) hn hz h2 (Nat.eq_zero_of_not_pos fun h3 => hg ⟨by omega, by omega, h2, fun _ => h3⟩)
        · cases h2 : readB (tl f) (n - 1)
          · exact rread_no_f A n c f _ w h (by omega) hn (by omega) h2
          · exact absurd ⟨by omega, by omega, h2, fun h => absurd h hz⟩ hg
end Go.Proofs.YtglcififcldchaaGreatDoor
