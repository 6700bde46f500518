/- Contracts of whole: Text, Parse. -/
import Derived.Test.YtglcififcldchaaGreatDoorPWf
import Derived.Lib.Strings
namespace Go.Proofs.YtglcififcldchaaGreatDoor
open Go.RowKit

/-- A whole number's text. -/
def dash : ByteArray := ⟨#[45]⟩
def textI (Z : Int) : ByteArray := if Z < 0 then dash ++ decS Z.natAbs else decS Z.natAbs
theorem decS_size {N k : Nat} (hN : N < 4294967296 ^ k) (hk : k ≤ 1000) : (decS N).size ≤ 40000 := by
  have h10 : N < 10 ^ (10 * k) := Nat.lt_of_lt_of_le hN (by rw [Nat.pow_mul]; exact Nat.pow_le_pow_left (by decide) _)
  exact (decS_read h10 (by omega)).1.2.1
set_option maxHeartbeats 1000000 in
theorem li_text {k : Nat} {w : World} {v : Value} {X : Int} (h : LimI k w v X) (hk : k ≤ 1000) : Calls Tryz.prog 85 #[v] w fun e w' => e = .returned (.string (textI X)) ∧ Below w.heap.size w w' := by
  obtain ⟨b, m, N, rfl, ⟨A, n, c, f, rfl, hr⟩, rfl⟩ := h
  have H : Lim k w (.slice A n c) N := ⟨A, n, c, f, rfl, hr⟩
  have HL := Lib.hid H
  have HT : Hid (textI (sg b N) = if decide (sg b N < 0) then dash ++ decS N else decS N) := by
    show textI _ = _
    unfold textI
    rw [sg_abs]
    by_cases h0 : sg b N < 0 <;> simp [h0]
  have hsz := decS_size H.lt hk
  have CB := Lib.hid (fun W (hW : Lim k W (.slice A n c) N) => isBelow_any b A n c N k W hW (by omega))
  have hcat := fun wq => run_string_add (P := Tryz.prog) wq dash (decS N) (by show 1 ≤ _; omega) (by omega)
  unfold dash at hcat
  clear hr H
  cases hbl : decide (sg b N < 0)
  all_goals
    rw [hbl] at CB HT
    clear hbl
    go_enter Tryz.func85, Tryz.ntmps85
    go_wp2_with fail
    refine Calls.mono (CB.out _ (HL.out.alloc_ _)) ?_
    rintro e w1 ⟨rfl, hb1⟩
    obtain ⟨hc1, hf1⟩ := bcell hb1
    have hz1 : w.heap.size < w1.heap.size := by have := hb1.size; simp at this; omega
    have HL1 := Lib.hid ((HL.out.alloc_ (.cells #[.bool b, .slice A n c] 24)).below hb1)
    have HB1 := Lib.hid (show Below w.heap.size w w1 from (below_new w _).trans (hb1.mono (by simp)))
    clear hb1 CB
    go_wp2_with fail
    refine Calls.mono (lim_text HL1.out (by omega)) ?_
    rintro e w2 ⟨rfl, hb2⟩
    have HB2 := Lib.hid (below_trans HB1.out hb2)
    clear hb2 HB1
    go_wp2
    go_ret
    exact ⟨by rw [HT.out]; rfl, HB2.out⟩

/-- Has s a - ahead? -/
def Minus (s : ByteArray) : Prop := 0 < s.size ∧ bt s 0 = 45
theorem pre_iff (s : ByteArray) : ((s.extract 0 1).toList == [45]) = true ↔ Minus s := by
  rw [Lib.extract_toList, beq_iff_eq]
  have hl : s.size = s.data.toList.length := Array.length_toList.symm
  unfold Minus bt
  rw [hl]
  generalize s.data.toList = l
  cases l with
  | nil => simp
  | cons c t =>
    simp
    constructor
    · rintro rfl; rfl
    · intro h; exact UInt8.toNat_inj.1 h
theorem hasPrefix_any (s : ByteArray) (w : World) (hs : s.size ≤ 9223372036854775807) (r : Bool) (hr : r = true ↔ Minus s) : Calls Tryz.prog 173 #[.string s, .string dash] w fun e w' => e = .returned (.bool r) ∧ w' = w := by
  have hp : ((s.extract 0 1).toList == [45]) = r := by rw [Bool.eq_iff_iff, pre_iff, hr]
  by_cases h0 : 0 < s.size
  · have h0' : (1 : Int) ≤ (s.size : Int) := by omega
    clear hr
    unfold dash
    go_enter Tryz.func173, Tryz.ntmps173
    go_wp2
    go_ret
    exact ⟨rfl, rfl⟩
  · have hf : r = false := by
      cases r
      · rfl
      · exact absurd (hr.1 rfl).1 h0
    subst hf
    have h0' : (s.size : Int) < 1 := by omega
    clear hr hp
    unfold dash
    go_enter Tryz.func173, Tryz.ntmps173
    go_wp2
    go_ret
    exact ⟨rfl, rfl⟩
/-- s without the - ahead. -/
def tailS (s : ByteArray) : ByteArray := s.extract 1 s.size
set_option maxHeartbeats 1000000 in
theorem cutPrefix_in (s : ByteArray) (w : World) (hs : s.size ≤ 9223372036854775807) (r : Bool) (hr : r = true ↔ Minus s) : Calls Tryz.prog 155 #[.string s, .string dash] w fun e w' => e = .returned (.tuple #[.string (if r then tailS s else s), .bool r]) ∧ w' = w := by
  have D := Lib.hid (hasPrefix_any s w hs r hr)
  have h0 : r = true → (1 : Int) ≤ (s.size : Int) := fun h => by have := (hr.1 h).1; omega
  clear hr
  unfold dash at D ⊢
  unfold tailS
  cases r
  · clear h0
    go_enter Tryz.func155, Tryz.ntmps155
    go_wp2_with fail
    refine D.out.mono ?_
    rintro e w1 ⟨rfl, rfl⟩
    clear D
    go_wp2
    go_ret2
    exact ⟨rfl, rfl⟩
  · have h1 := h0 rfl
    clear h0
    go_enter Tryz.func155, Tryz.ntmps155
    go_wp2_with fail
    refine D.out.mono ?_
    rintro e w1 ⟨rfl, rfl⟩
    clear D
    go_wp2
    go_ret2
    exact ⟨rfl, rfl⟩
theorem cutPrefix_any (s : ByteArray) (w : World) (hs : s.size ≤ 9223372036854775807) (r : Bool) (hr : r = true ↔ Minus s) : Calls Tryz.prog 138 #[.string s, .string dash] w fun e w' => e = .returned (.tuple #[.string (if r then tailS s else s), .bool r]) ∧ w' = w := by
  have D := Lib.hid (cutPrefix_in s w hs r hr)
  clear hr
  unfold dash at D ⊢
  generalize (if r then tailS s else s) = q at *
  go_enter Tryz.func138, Tryz.ntmps138
  go_wp2_with fail
  refine D.out.mono ?_
  rintro e w1 ⟨rfl, rfl⟩
  clear D
  go_wp2
  go_ret2
  exact ⟨rfl, rfl⟩
theorem behind_any (b : Bool) (w : World) : Calls Tryz.prog 115 #[.bool b] w fun e w' => e = .returned (.func (.func 141) #[] #[.pointer (some ⟨w.heap.size, 0, none⟩)]) ∧ w' = w.alloc (.cells #[.bool b] 4) := by
  go_enter Tryz.func115, Tryz.ntmps115
  go_wp2
  go_ret
  exact ⟨rfl, rfl⟩
theorem behind1_any (b : Bool) (g : Nat) (A : Option Addr) (n c : Nat) (w : World) (h : w.cell? ⟨g, 0, none⟩ = some (.bool b)) (r : Bool) (hr : r = (!b || decide (0 < n))) :
    Calls Tryz.prog 141 #[.slice A n c, .pointer (some ⟨g, 0, none⟩)] w fun e w' => e = .returned (.bool r) ∧ w' = w := by
  cases b
  · obtain rfl : r = true := by rw [hr]; rfl
    clear hr
    go_enter Tryz.func141, Tryz.ntmps141
    go_wp2
    go_ret
    exact ⟨rfl, rfl⟩
  · have hr' : decide (0 < n) = r := by rw [hr]; rfl
    clear hr
    go_enter Tryz.func141, Tryz.ntmps141
    go_wp2
    go_ret
    exact ⟨by rw [← hr']; rfl, rfl⟩
noncomputable def minusB (s : ByteArray) : Bool := by classical exact decide (Minus s)
theorem minusB_iff (s : ByteArray) : minusB s = true ↔ Minus s := by unfold minusB; simp
noncomputable def digitsOf (s : ByteArray) : ByteArray := if minusB s then tailS s else s
/-- What Parse tells of a text. -/
noncomputable def intB (s : ByteArray) : Bool := isNumB (digitsOf s) && (!minusB s || decide (0 < numV (digitsOf s)))
noncomputable def intV (s : ByteArray) : Int := sg (minusB s) (numV (digitsOf s))
def ParsePostI (w w' : World) (e : Ending) (b : Bool) (Z : Int) : Prop := ∃ v, e = .returned (.tuple #[v, .bool b]) ∧ IsInt w' v Z ∧ Below w.heap.size w w'
theorem digitsOf_size (s : ByteArray) : (digitsOf s).size ≤ s.size := by
  unfold digitsOf tailS
  split
  · rw [ByteArray.size_extract]; omega
  · omega
theorem intV_zero {s : ByteArray} (h : intB s = false) : intV s = 0 := by
  unfold intB intV at *
  rw [sg_zero]
  cases hn : isNumB (digitsOf s)
  · rcases Classical.em (IsNum (digitsOf s)) with hh | hh
    · rw [(num_yes hh).1] at hn; cases hn
    · exact (num_no hh).2
  · rw [hn] at h
    rcases Nat.eq_zero_or_pos (numV (digitsOf s)) with h0 | h0
    · exact h0
    · rw [decide_eq_true h0] at h; simp at h
theorem isInt_zero (w : World) : IsInt w (.agg #[.bool false, .slice none 0 0]) 0 := ⟨_, rfl, isNat_nil _⟩

set_option maxHeartbeats 1000000 in
theorem parseI_nonum (s : ByteArray) (w : World) (hs : s.size ≤ 4611686018427387904) (hq : isNumB (digitsOf s) = false) :
    Calls Tryz.prog 111 #[.string s] w fun e w' => ParsePostI w w' e (intB s) (intV s) := by
  have D := Lib.hid (cutPrefix_any s (w.alloc (.cells #[.bool false, .slice none 0 0] 24)) (by omega) (minusB s) (minusB_iff s))
  have hsz := digitsOf_size s
  have P := fun W => Lib.hid (str_parse (digitsOf s) W (by omega))
  have HB : Hid (intB s = false) := by show intB s = _; unfold intB; rw [hq]; rfl
  have HV := Lib.hid (intV_zero HB.out)
  rw [hq] at P
  rw [show (if minusB s then tailS s else s) = digitsOf s from rfl] at D
  generalize intB s = ib at *
  generalize intV s = iv at *
  generalize minusB s = r at *
  generalize numV (digitsOf s) = N at *
  generalize digitsOf s = q at *
  clear hq
  unfold dash at D
  go_enter Tryz.func111, Tryz.ntmps111
  go_wp2_with fail
  refine D.out.mono ?_
  rintro e w0 ⟨rfl, rfl⟩
  clear D
  go_wp2_with fail
  refine Calls.mono (behind_any r _) ?_
  rintro e w0 ⟨rfl, rfl⟩
  go_wp2_with fail
  refine Calls.mono (P _).out ?_
  rintro e w1 ⟨v1, rfl, h1, hb1⟩
  obtain ⟨A1, n1, c1, rfl, hn1, h1⟩ := isNat_form h1
  have hz1 : w.heap.size + 2 ≤ w1.heap.size := (by have hz := hb1.size; (try simp at hz); omega)
  have k0 := Blk.below (g := w.heap.size) (t := 24) (cs := #[.bool false, .slice none 0 0]) (by repeat (first | with_reducible assumption | (with_reducible refine Hid.out ?_; with_reducible assumption) | ((with_reducible refine Blk.new _ _ ?_ _ _) <;> (simp; done)) | (with_reducible apply Blk.drew_) | (with_reducible apply Lim.drew_) | (with_reducible apply IsNat.drew_) | (with_reducible refine Lim.alloc_ ?_ _) | (with_reducible refine IsNat.alloc_ ?_ _) | (with_reducible refine Blk.alloc_ ?_ _) | (with_reducible apply Blk.own2) | (with_reducible refine Blk.other2 ?_ (by omega)) | (with_reducible apply IsNat.other2) | (with_reducible refine Blk.below ?_ (by with_reducible assumption)) | (with_reducible refine Lim.below ?_ (by with_reducible assumption)) | (with_reducible refine IsNat.below ?_ (by with_reducible assumption)))) hb1
  obtain ⟨p0, q0, r0, s0, t0⟩ := k0.facts2
  have k1 := Blk.below (g := w.heap.size + 1) (t := 4) (cs := #[.bool r]) (by repeat (first | with_reducible assumption | (with_reducible refine Hid.out ?_; with_reducible assumption) | ((with_reducible refine Blk.new _ _ ?_ _ _) <;> (simp; done)) | (with_reducible apply Blk.drew_) | (with_reducible apply Lim.drew_) | (with_reducible apply IsNat.drew_) | (with_reducible refine Lim.alloc_ ?_ _) | (with_reducible refine IsNat.alloc_ ?_ _) | (with_reducible refine Blk.alloc_ ?_ _) | (with_reducible apply Blk.own2) | (with_reducible refine Blk.other2 ?_ (by omega)) | (with_reducible apply IsNat.other2) | (with_reducible refine Blk.below ?_ (by with_reducible assumption)) | (with_reducible refine Lim.below ?_ (by with_reducible assumption)) | (with_reducible refine IsNat.below ?_ (by with_reducible assumption)))) hb1
  have p1 := k1.cell 0
  have hBL := Lib.hid (show Below w.heap.size w w1 from (by repeat first | exact Below.refl _ _ | (with_reducible refine Below.trans ?_ (Below.mono (by with_reducible assumption) ?_)) | (with_reducible refine Below.alloc_ ?_ ?_ _) | (with_reducible refine Below.drew ?_) | (with_reducible refine Below.set2 ?_ ?_) | exact Nat.le_refl _ | omega | focus (simp <;> omega)))
  have K0 := Lib.hid k0
  clear k0 k1 hb1 q0 P
  go_wp2
  obtain ⟨WF, hWF⟩ : ∃ W, W = (w1.setCell ⟨w.heap.size, 0, none⟩ (.bool false)).setCell ⟨w.heap.size, 1, none⟩ (.slice none 0 0) := ⟨_, rfl⟩
  rw [← hWF]
  have kq : Blk WF w.heap.size 24 #[.bool false, .slice none 0 0] := by rw [hWF]; exact K0.out.own2
  have hBF : Below w.heap.size w WF := by rw [hWF]; exact Below.set2 hBL.out (Nat.le_refl _)
  have hI : IsNat WF (.slice A1 n1 c1) N := by rw [hWF]; exact h1.other2 K0.out
  have HE : Hid (ParsePostI w WF (.returned (.tuple #[.agg #[.bool false, .slice none 0 0], .bool false])) ib iv) := ⟨_, by rw [HB.out], by rw [HV.out]; exact isInt_zero _, hBF⟩
  have e0 := kq.cell0
  have e1 := kq.cell1
  clear hWF hI
  exact bodyPost_ret (v := .tuple #[.agg #[.bool false, .slice none 0 0], .bool false]) (by simp [results, Tryz.results111, go_sem, e0, e1]) rfl HE.out

set_option maxHeartbeats 1000000 in
theorem parseI_no (s : ByteArray) (w : World) (hs : s.size ≤ 4611686018427387904) (hq : isNumB (digitsOf s) = true) (hw : (!minusB s || decide (0 < numV (digitsOf s))) = false) :
    Calls Tryz.prog 111 #[.string s] w fun e w' => ParsePostI w w' e (intB s) (intV s) := by
  have D := Lib.hid (cutPrefix_any s (w.alloc (.cells #[.bool false, .slice none 0 0] 24)) (by omega) (minusB s) (minusB_iff s))
  have hsz := digitsOf_size s
  have P := fun W => Lib.hid (str_parse (digitsOf s) W (by omega))
  have HB : Hid (intB s = false) := by show intB s = _; unfold intB; rw [hq]; rw [hw]; rfl
  have HV := Lib.hid (intV_zero HB.out)
  have HW := Lib.hid hw
  rw [hq] at P
  rw [show (if minusB s then tailS s else s) = digitsOf s from rfl] at D
  generalize intB s = ib at *
  generalize intV s = iv at *
  generalize minusB s = r at *
  generalize numV (digitsOf s) = N at *
  generalize digitsOf s = q at *
  clear hq hw
  unfold dash at D
  go_enter Tryz.func111, Tryz.ntmps111
  go_wp2_with fail
  refine D.out.mono ?_
  rintro e w0 ⟨rfl, rfl⟩
  clear D
  go_wp2_with fail
  refine Calls.mono (behind_any r _) ?_
  rintro e w0 ⟨rfl, rfl⟩
  go_wp2_with fail
  refine Calls.mono (P _).out ?_
  rintro e w1 ⟨v1, rfl, h1, hb1⟩
  obtain ⟨A1, n1, c1, rfl, hn1, h1⟩ := isNat_form h1
  have hz1 : w.heap.size + 2 ≤ w1.heap.size := (by have hz := hb1.size; (try simp at hz); omega)
  have k0 := Blk.below (g := w.heap.size) (t := 24) (cs := #[.bool false, .slice none 0 0]) (by repeat (first | with_reducible assumption | (with_reducible refine Hid.out ?_; with_reducible assumption) | ((with_reducible refine Blk.new _ _ ?_ _ _) <;> (simp; done)) | (with_reducible apply Blk.drew_) | (with_reducible apply Lim.drew_) | (with_reducible apply IsNat.drew_) | (with_reducible refine Lim.alloc_ ?_ _) | (with_reducible refine IsNat.alloc_ ?_ _) | (with_reducible refine Blk.alloc_ ?_ _) | (with_reducible apply Blk.own2) | (with_reducible refine Blk.other2 ?_ (by omega)) | (with_reducible apply IsNat.other2) | (with_reducible refine Blk.below ?_ (by with_reducible assumption)) | (with_reducible refine Lim.below ?_ (by with_reducible assumption)) | (with_reducible refine IsNat.below ?_ (by with_reducible assumption)))) hb1
  obtain ⟨p0, q0, r0, s0, t0⟩ := k0.facts2
  have k1 := Blk.below (g := w.heap.size + 1) (t := 4) (cs := #[.bool r]) (by repeat (first | with_reducible assumption | (with_reducible refine Hid.out ?_; with_reducible assumption) | ((with_reducible refine Blk.new _ _ ?_ _ _) <;> (simp; done)) | (with_reducible apply Blk.drew_) | (with_reducible apply Lim.drew_) | (with_reducible apply IsNat.drew_) | (with_reducible refine Lim.alloc_ ?_ _) | (with_reducible refine IsNat.alloc_ ?_ _) | (with_reducible refine Blk.alloc_ ?_ _) | (with_reducible apply Blk.own2) | (with_reducible refine Blk.other2 ?_ (by omega)) | (with_reducible apply IsNat.other2) | (with_reducible refine Blk.below ?_ (by with_reducible assumption)) | (with_reducible refine Lim.below ?_ (by with_reducible assumption)) | (with_reducible refine IsNat.below ?_ (by with_reducible assumption)))) hb1
  have p1 := k1.cell 0
  have hBL := Lib.hid (show Below w.heap.size w w1 from (by repeat first | exact Below.refl _ _ | (with_reducible refine Below.trans ?_ (Below.mono (by with_reducible assumption) ?_)) | (with_reducible refine Below.alloc_ ?_ ?_ _) | (with_reducible refine Below.drew ?_) | (with_reducible refine Below.set2 ?_ ?_) | exact Nat.le_refl _ | omega | focus (simp <;> omega)))
  have K0 := Lib.hid k0
  clear k0 k1 hb1 q0 P
  have HC : Hid ((!r || decide (0 < n1)) = false) := by
    show _ = _
    rw [← HW.out]
    congr 1
    by_cases x : 0 < n1
    · rw [decide_eq_true x, decide_eq_true (hn1.1 x)]
    · rw [decide_eq_false x, decide_eq_false (by rw [← hn1]; exact x)]
  have CL := Lib.hid (behind1_any r (w.heap.size + 1) A1 n1 c1 w1 p1 false HC.out.symm)
  go_wp2_with fail
  refine CL.out.mono ?_
  rintro e w2 ⟨rfl, hw2⟩
  subst w2
  clear CL
  go_wp2
  obtain ⟨WF, hWF⟩ : ∃ W, W = (w1.setCell ⟨w.heap.size, 0, none⟩ (.bool false)).setCell ⟨w.heap.size, 1, none⟩ (.slice none 0 0) := ⟨_, rfl⟩
  rw [← hWF]
  have kq : Blk WF w.heap.size 24 #[.bool false, .slice none 0 0] := by rw [hWF]; exact K0.out.own2
  have hBF : Below w.heap.size w WF := by rw [hWF]; exact Below.set2 hBL.out (Nat.le_refl _)
  have hI : IsNat WF (.slice A1 n1 c1) N := by rw [hWF]; exact h1.other2 K0.out
  have HE : Hid (ParsePostI w WF (.returned (.tuple #[.agg #[.bool false, .slice none 0 0], .bool false])) ib iv) := ⟨_, by rw [HB.out], by rw [HV.out]; exact isInt_zero _, hBF⟩
  have e0 := kq.cell0
  have e1 := kq.cell1
  clear hWF hI
  exact bodyPost_ret (v := .tuple #[.agg #[.bool false, .slice none 0 0], .bool false]) (by simp [results, Tryz.results111, go_sem, e0, e1]) rfl HE.out

set_option maxHeartbeats 1000000 in
theorem parseI_yes (s : ByteArray) (w : World) (hs : s.size ≤ 4611686018427387904) (hq : isNumB (digitsOf s) = true) (hw : (!minusB s || decide (0 < numV (digitsOf s))) = true) :
    Calls Tryz.prog 111 #[.string s] w fun e w' => ParsePostI w w' e (intB s) (intV s) := by
  have D := Lib.hid (cutPrefix_any s (w.alloc (.cells #[.bool false, .slice none 0 0] 24)) (by omega) (minusB s) (minusB_iff s))
  have hsz := digitsOf_size s
  have P := fun W => Lib.hid (str_parse (digitsOf s) W (by omega))
  have HB : Hid (intB s = true) := by show intB s = _; unfold intB; rw [hq]; rw [hw]; rfl
  have HV : Hid (intV s = sg (minusB s) (numV (digitsOf s))) := rfl
  have HW := Lib.hid hw
  rw [hq] at P
  rw [show (if minusB s then tailS s else s) = digitsOf s from rfl] at D
  generalize intB s = ib at *
  generalize intV s = iv at *
  generalize minusB s = r at *
  generalize numV (digitsOf s) = N at *
  generalize digitsOf s = q at *
  clear hq hw
  unfold dash at D
  go_enter Tryz.func111, Tryz.ntmps111
  go_wp2_with fail
  refine D.out.mono ?_
  rintro e w0 ⟨rfl, rfl⟩
  clear D
  go_wp2_with fail
  refine Calls.mono (behind_any r _) ?_
  rintro e w0 ⟨rfl, rfl⟩
  go_wp2_with fail
  refine Calls.mono (P _).out ?_
  rintro e w1 ⟨v1, rfl, h1, hb1⟩
  obtain ⟨A1, n1, c1, rfl, hn1, h1⟩ := isNat_form h1
  have hz1 : w.heap.size + 2 ≤ w1.heap.size := (by have hz := hb1.size; (try simp at hz); omega)
  have k0 := Blk.below (g := w.heap.size) (t := 24) (cs := #[.bool false, .slice none 0 0]) (by repeat (first | with_reducible assumption | (with_reducible refine Hid.out ?_; with_reducible assumption) | ((with_reducible refine Blk.new _ _ ?_ _ _) <;> (simp; done)) | (with_reducible apply Blk.drew_) | (with_reducible apply Lim.drew_) | (with_reducible apply IsNat.drew_) | (with_reducible refine Lim.alloc_ ?_ _) | (with_reducible refine IsNat.alloc_ ?_ _) | (with_reducible refine Blk.alloc_ ?_ _) | (with_reducible apply Blk.own2) | (with_reducible refine Blk.other2 ?_ (by omega)) | (with_reducible apply IsNat.other2) | (with_reducible refine Blk.below ?_ (by with_reducible assumption)) | (with_reducible refine Lim.below ?_ (by with_reducible assumption)) | (with_reducible refine IsNat.below ?_ (by with_reducible assumption)))) hb1
  obtain ⟨p0, q0, r0, s0, t0⟩ := k0.facts2
  have k1 := Blk.below (g := w.heap.size + 1) (t := 4) (cs := #[.bool r]) (by repeat (first | with_reducible assumption | (with_reducible refine Hid.out ?_; with_reducible assumption) | ((with_reducible refine Blk.new _ _ ?_ _ _) <;> (simp; done)) | (with_reducible apply Blk.drew_) | (with_reducible apply Lim.drew_) | (with_reducible apply IsNat.drew_) | (with_reducible refine Lim.alloc_ ?_ _) | (with_reducible refine IsNat.alloc_ ?_ _) | (with_reducible refine Blk.alloc_ ?_ _) | (with_reducible apply Blk.own2) | (with_reducible refine Blk.other2 ?_ (by omega)) | (with_reducible apply IsNat.other2) | (with_reducible refine Blk.below ?_ (by with_reducible assumption)) | (with_reducible refine Lim.below ?_ (by with_reducible assumption)) | (with_reducible refine IsNat.below ?_ (by with_reducible assumption)))) hb1
  have p1 := k1.cell 0
  have hBL := Lib.hid (show Below w.heap.size w w1 from (by repeat first | exact Below.refl _ _ | (with_reducible refine Below.trans ?_ (Below.mono (by with_reducible assumption) ?_)) | (with_reducible refine Below.alloc_ ?_ ?_ _) | (with_reducible refine Below.drew ?_) | (with_reducible refine Below.set2 ?_ ?_) | exact Nat.le_refl _ | omega | focus (simp <;> omega)))
  have K0 := Lib.hid k0
  clear k0 k1 hb1 q0 P
  have HC : Hid ((!r || decide (0 < n1)) = true) := by
    show _ = _
    rw [← HW.out]
    congr 1
    by_cases x : 0 < n1
    · rw [decide_eq_true x, decide_eq_true (hn1.1 x)]
    · rw [decide_eq_false x, decide_eq_false (by rw [← hn1]; exact x)]
  have CL := Lib.hid (behind1_any r (w.heap.size + 1) A1 n1 c1 w1 p1 true HC.out.symm)
  go_wp2_with fail
  refine CL.out.mono ?_
  rintro e w2 ⟨rfl, hw2⟩
  subst w2
  clear CL
  go_wp2
  obtain ⟨WF, hWF⟩ : ∃ W, W = (w1.setCell ⟨w.heap.size, 0, none⟩ (.bool r)).setCell ⟨w.heap.size, 1, none⟩ (.slice A1 n1 c1) := ⟨_, rfl⟩
  rw [← hWF]
  have kq : Blk WF w.heap.size 24 #[.bool r, .slice A1 n1 c1] := by rw [hWF]; exact K0.out.own2
  have hBF : Below w.heap.size w WF := by rw [hWF]; exact Below.set2 hBL.out (Nat.le_refl _)
  have hI : IsNat WF (.slice A1 n1 c1) N := by rw [hWF]; exact h1.other2 K0.out
  have HE : Hid (ParsePostI w WF (.returned (.tuple #[.agg #[.bool r, .slice A1 n1 c1], .bool true])) ib iv) := ⟨_, by rw [HB.out], by
      rw [HV.out]
      have hr' : (r && decide (0 < N)) = r := by
        have := HW.out
        cases r
        · rfl
        · simpa using this
      have := isInt_sg (b := r) hI
      rw [hr'] at this
      exact this, hBF⟩
  have e0 := kq.cell0
  have e1 := kq.cell1
  clear hWF hI
  exact bodyPost_ret (v := .tuple #[.agg #[.bool r, .slice A1 n1 c1], .bool true]) (by simp [results, Tryz.results111, go_sem, e0, e1]) rfl HE.out

theorem str_parseI (s : ByteArray) (w : World) (hs : s.size ≤ 4611686018427387904) : Calls Tryz.prog 111 #[.string s] w fun e w' => ParsePostI w w' e (intB s) (intV s) := by
  cases hq : isNumB (digitsOf s)
  · exact parseI_nonum s w hs hq
  · cases hw : (!minusB s || decide (0 < numV (digitsOf s)))
    · exact parseI_no s w hs hq hw
    · exact parseI_yes s w hs hq hw
end Go.Proofs.YtglcififcldchaaGreatDoor
