/- Contracts of ratio: Text. -/
import Derived.Test.YtglcififcldchaaGreatDoorPRi
import Derived.Shelf.Strings.Trim
import Derived.Shelf.Strings.Prefix
import Derived.Shelf.Strings.Search1
import Derived.Shelf.Strings.Search2
import Derived.Shelf.Small.Strs
import Derived.Shelf.Small.Wraps
import Derived.Shelf.Bits.Mul64
import Derived.Test.YtglcififcldchaaGreatDoorProg
namespace Go.Proofs.YtglcififcldchaaGreatDoor
open Go.RowKit
attribute [local go_sem ↓] Go.wp_at_zero Go.wp_at_succ
set_option linter.unusedVariables false

def textQ (q : Rat) : ByteArray := if q.den = 1 then textI q.num else textI q.num ++ ⟨#[47]⟩ ++ textI (q.den : Int)
theorem textI_size' {X : Int} {k : Nat} (hX : X.natAbs < 4294967296 ^ k) (hk : k ≤ 1000) : (textI X).size ≤ 40001 := by
  have := decS_size hX hk
  unfold textI
  split
  · rw [ByteArray.size_append]
    show 1 + _ ≤ _
    omega
  · omega

set_option maxRecDepth 100000 in
set_option maxHeartbeats 4000000 in
theorem text_q1 (b : Bool) (A : Option Addr) (n c : Nat) (b' : Bool) (A' : Option Addr) (n' c' : Nat) (w : World) (k : Nat) (q : Rat) (hx : LimQ k w (.agg #[.bool b, .slice A n c, .bool b', .slice A' n' c']) q) (hk : k ≤ 1000) (h1 : 1 ≤ k) (hd : q.den = 1) :
    Calls Tryz.prog 44 #[(.agg #[.bool b, .slice A n c, .bool b', .slice A' n' c'])] w fun e w' => e = .returned (.string (textQ q)) ∧ Below w.heap.size w w' := by
  have x_0 := Lib.hid hx
  have BQ0 := Lib.hid (hx.bq h1)
  have BN := Lib.hid BQ0.out.1
  have BD := Lib.hid (show ((q.den : Int)).natAbs < 4294967296 ^ k from BQ0.out.2)
  clear hx
  have HC : Hid (cmpI (q.den : Int) 1 = 0) := by show cmpI _ _ = 0; rw [hd]; rfl
  have HT : Hid (textQ q = textI q.num) := by show textQ q = _; unfold textQ; rw [if_pos hd]
  clear hd
  go_enter Tryz.func44, Tryz.ntmps44
  go_wp2_with fail
  refine Calls.mono (q_plain (x_0.out.alloc_ _) (by omega) h1) ?_
  rintro e w1 ⟨v, rfl, h, hb⟩
  obtain ⟨b1, A1, n1, c1, d1, B1, m1, k1, rfl, -, -, -, h1, h2⟩ := h.form
  have hB := bun (hb)
  have Ka_1 := Lib.hid (show Blk w1 (w.heap.size) 26 #[.bool b, .slice A n c, .bool b', .slice A' n' c'] from (Blk.new _ _ (by simp) _ _).below hb)
  have z_1 := Lib.hid (h1)
  have z2_1 := Lib.hid (h2)
  have HB_1 := Lib.hid (hB)
  have hs_1 : w.heap.size ≤ w1.heap.size := HB_1.out.size
  have hz_1 : w.heap.size + 1 ≤ w1.heap.size := (by have h := hb.size; (try simp at h); omega)
  clear hB hb x_0
  obtain ⟨p10, p11, p12, p13, l1⟩ := Ka_1.out.use4
  obtain ⟨r10, r11, r12, r13⟩ := Ka_1.out.into4
  go_upto_region 2 with fail
  generalize hW : ((((w1.setCell ⟨w.heap.size, 0, none⟩ (.bool b1)).setCell ⟨w.heap.size, 1, none⟩ (.slice A1 n1 c1)).setCell ⟨w.heap.size, 2, none⟩ (.bool d1)).setCell ⟨w.heap.size, 3, none⟩ (.slice B1 m1 k1)) = w2
  have z_2 := Lib.hid (by have h := ((((z_1.out.one Ka_1.out (i := 0) (x := .bool b) (y := .bool b1) rfl nu).one (Ka_1.out.set_ 0 (.bool b1)) (i := 1) (x := .slice A n c) (y := .slice A1 n1 c1) rfl nu).one ((Ka_1.out.set_ 0 (.bool b1)).set_ 1 (.slice A1 n1 c1)) (i := 2) (x := .bool b') (y := .bool d1) rfl nu).one (((Ka_1.out.set_ 0 (.bool b1)).set_ 1 (.slice A1 n1 c1)).set_ 2 (.bool d1)) (i := 3) (x := .slice A' n' c') (y := .slice B1 m1 k1) rfl nu); rw [hW] at h; exact h)
  have z2_2 := Lib.hid (by have h := ((((z2_1.out.one Ka_1.out (i := 0) (x := .bool b) (y := .bool b1) rfl nu).one (Ka_1.out.set_ 0 (.bool b1)) (i := 1) (x := .slice A n c) (y := .slice A1 n1 c1) rfl nu).one ((Ka_1.out.set_ 0 (.bool b1)).set_ 1 (.slice A1 n1 c1)) (i := 2) (x := .bool b') (y := .bool d1) rfl nu).one (((Ka_1.out.set_ 0 (.bool b1)).set_ 1 (.slice A1 n1 c1)).set_ 2 (.bool d1)) (i := 3) (x := .slice A' n' c') (y := .slice B1 m1 k1) rfl nu); rw [hW] at h; exact h)
  have Ka_2 := Lib.hid (show Blk w2 (w.heap.size) 26 #[.bool b1, .slice A1 n1 c1, .bool d1, .slice B1 m1 k1] from by rw [← hW]; exact ((((Ka_1.out.set_ 0 (.bool b1)).set_ 1 (.slice A1 n1 c1)).set_ 2 (.bool d1)).set_ 3 (.slice B1 m1 k1)))
  have HB_2 := Lib.hid (show Below w.heap.size w w2 from by rw [← hW]; exact (bset (bset (bset (bset HB_1.out (by omega)) (by omega)) (by omega)) (by omega)))
  have hs_2 : w.heap.size ≤ w2.heap.size := HB_2.out.size
  have hz_2 : w1.heap.size ≤ w2.heap.size := by rw [← hW]; simp [World.setCell]
  have hq_2 := Lib.hid (show w2.heap.size = w1.heap.size from by rw [← hW]; simp [World.setCell])
  clear hW z_1 z2_1 Ka_1 HB_1 p10 p11 p12 p13 l1 r10 r11 r12 r13
  go_wp2
  obtain ⟨p20, p21, p22, p23, l2⟩ := Ka_2.out.use4
  have tok0 : True := trivial
  have tok1 : True := trivial
  go_region_held3 (fun w' => w'.cell? ⟨w.heap.size, 0, none⟩ = some (.bool b1) ∧ w'.cell? ⟨w.heap.size, 1, none⟩ = some (.slice A1 n1 c1) ∧ w'.cell? ⟨w.heap.size, 2, none⟩ = some (.bool d1) ∧ w'.cell? ⟨w.heap.size, 3, none⟩ = some (.slice B1 m1 k1)) (first | (refine ⟨?_, ?_, ?_, ?_⟩ <;> (first | with_reducible assumption | ((with_reducible refine Eq.trans (cell_drew _ _) ?_); with_reducible assumption) | ((rw [cell_far4 _ _ _ _ _ _ _ _ (by omega)]); with_reducible assumption) | ((rw [cell_far2 _ _ _ _ _ _ (by omega)]); with_reducible assumption) | go_keep)) | trivial | go_keep)
    (first
      | (go_at_call 72; have _t := tok0; clear _t tok0; ((with_reducible refine Calls.mono (of_any 1 _ (by omega) (by omega)) ?_)); rintro e w3 ⟨v, rfl, h, hb⟩; obtain ⟨b3, A3, n3, c3, rfl, -, -, h⟩ := h.form; have hB := (show Below w2.heap.size w2 w3 from by first | exact hb | exact bundrew hb | exact bun hb | exact bundrew (bun hb) | exact bun (bundrew hb)); have z_3 := Lib.hid (z_2.out.below hB); have z2_3 := Lib.hid (z2_2.out.below hB); have Ka_3 := Lib.hid (Ka_2.out.below hB); have o_3 := Lib.hid (h); have HB_3 := Lib.hid (below_trans HB_2.out hB); have hs_3 : w.heap.size ≤ w3.heap.size := HB_3.out.size; have hz_3 : w2.heap.size + 0 ≤ w3.heap.size := (by have h := hb.size; (try simp at h); omega); clear hB hb z_2 z2_2 Ka_2 HB_2 p20 p21 p22 p23 l2; obtain ⟨p30, p31, p32, p33, l3⟩ := Ka_3.out.use4)
      | (go_at_call 52; have _t := tok1; clear _t tok1; ((with_reducible refine Calls.mono (li_cmp_is 0 HC.out (IsInt.lim (k := k) (by first | exact z2_3.out | exact z2_3.out.drew_ | exact z2_3.out.alloc_ _ | exact (z2_3.out.alloc_ _).drew_) BD.out) (IsInt.lim (k := 1) (by first | exact o_3.out | exact o_3.out.drew_ | exact o_3.out.alloc_ _ | exact (o_3.out.alloc_ _).drew_) (by decide)) (by omega) (by omega)) ?_)); rintro e w4 ⟨rfl, hb⟩; have hB := (show Below w3.heap.size w3 w4 from by first | exact hb | exact bundrew hb | exact bun hb | exact bundrew (bun hb) | exact bun (bundrew hb)); have z_4 := Lib.hid (z_3.out.below hB); have z2_4 := Lib.hid (z2_3.out.below hB); have Ka_4 := Lib.hid (Ka_3.out.below hB); have HB_4 := Lib.hid (below_trans HB_3.out hB); have hs_4 : w.heap.size ≤ w4.heap.size := HB_4.out.size; have hz_4 : w3.heap.size + 0 ≤ w4.heap.size := (by have h := hb.size; (try simp at h); omega); clear hB hb z_3 z2_3 o_3 Ka_3 HB_3 p30 p31 p32 p33 l3; obtain ⟨p40, p41, p42, p43, l4⟩ := Ka_4.out.use4))
  go_wp2_with fail
  refine Calls.mono (li_text (IsInt.lim (k := k) z_4.out BQ0.out.1) hk) ?_
  rintro e w9 ⟨rfl, hb⟩
  have HB9 := Lib.hid (below_trans HB_4.out hb)
  clear hb
  go_wp2
  go_ret
  exact ⟨by rw [HT.out]; rfl, HB9.out⟩

set_option maxRecDepth 100000 in
set_option maxHeartbeats 4000000 in
theorem text_q0 (b : Bool) (A : Option Addr) (n c : Nat) (b' : Bool) (A' : Option Addr) (n' c' : Nat) (w : World) (k : Nat) (q : Rat) (hx : LimQ k w (.agg #[.bool b, .slice A n c, .bool b', .slice A' n' c']) q) (hk : k ≤ 1000) (h1 : 1 ≤ k) (hd : q.den ≠ 1) :
    Calls Tryz.prog 44 #[(.agg #[.bool b, .slice A n c, .bool b', .slice A' n' c'])] w fun e w' => e = .returned (.string (textQ q)) ∧ Below w.heap.size w w' := by
  have x_0 := Lib.hid hx
  have BQ0 := Lib.hid (hx.bq h1)
  have BN := Lib.hid BQ0.out.1
  have BD := Lib.hid (show ((q.den : Int)).natAbs < 4294967296 ^ k from BQ0.out.2)
  clear hx
  obtain ⟨r, hr⟩ : ∃ r, cmpI (q.den : Int) 1 = r := ⟨_, rfl⟩
  have hr0 : (r == 0) = false := by
    have := q.den_pos
    rw [beq_eq_false_iff_ne, ← hr, cmpI_gt (by omega)]; omega
  have HC := Lib.hid hr
  have HT : Hid (textQ q = textI q.num ++ ⟨#[47]⟩ ++ textI (q.den : Int)) := by show textQ q = _; unfold textQ; rw [if_neg hd]
  have s1 := textI_size' BQ0.out.1 hk
  have s2 := textI_size' (X := (q.den : Int)) (by have := BQ0.out.2; omega) hk
  have hcat := fun wq => run_string_add (P := Tryz.prog) wq (textI q.num) ⟨#[47]⟩ (by omega) (by show 1 ≤ _; omega)
  have s3 : (textI q.num ++ ⟨#[47]⟩).size ≤ 40002 := by rw [ByteArray.size_append]; show _ + 1 ≤ _; omega
  have hcat2 := fun wq => run_string_add (P := Tryz.prog) wq (textI q.num ++ ⟨#[47]⟩) (textI (q.den : Int)) (by omega) (by omega)
  clear hr hd
  generalize hS1 : textI q.num = S1 at *
  generalize hS2 : textI (q.den : Int) = S2 at *
  have HS1 := Lib.hid hS1
  have HS2 := Lib.hid hS2
  clear hS1 hS2
  go_enter Tryz.func44, Tryz.ntmps44
  go_wp2_with fail
  refine Calls.mono (q_plain (x_0.out.alloc_ _) (by omega) h1) ?_
  rintro e w1 ⟨v, rfl, h, hb⟩
  obtain ⟨b1, A1, n1, c1, d1, B1, m1, k1, rfl, -, -, -, h1, h2⟩ := h.form
  have hB := bun (hb)
  have Ka_1 := Lib.hid (show Blk w1 (w.heap.size) 26 #[.bool b, .slice A n c, .bool b', .slice A' n' c'] from (Blk.new _ _ (by simp) _ _).below hb)
  have z_1 := Lib.hid (h1)
  have z2_1 := Lib.hid (h2)
  have HB_1 := Lib.hid (hB)
  have hs_1 : w.heap.size ≤ w1.heap.size := HB_1.out.size
  have hz_1 : w.heap.size + 1 ≤ w1.heap.size := (by have h := hb.size; (try simp at h); omega)
  clear hB hb x_0
  obtain ⟨p10, p11, p12, p13, l1⟩ := Ka_1.out.use4
  obtain ⟨r10, r11, r12, r13⟩ := Ka_1.out.into4
  go_upto_region 2 with fail
  generalize hW : ((((w1.setCell ⟨w.heap.size, 0, none⟩ (.bool b1)).setCell ⟨w.heap.size, 1, none⟩ (.slice A1 n1 c1)).setCell ⟨w.heap.size, 2, none⟩ (.bool d1)).setCell ⟨w.heap.size, 3, none⟩ (.slice B1 m1 k1)) = w2
  have z_2 := Lib.hid (by have h := ((((z_1.out.one Ka_1.out (i := 0) (x := .bool b) (y := .bool b1) rfl nu).one (Ka_1.out.set_ 0 (.bool b1)) (i := 1) (x := .slice A n c) (y := .slice A1 n1 c1) rfl nu).one ((Ka_1.out.set_ 0 (.bool b1)).set_ 1 (.slice A1 n1 c1)) (i := 2) (x := .bool b') (y := .bool d1) rfl nu).one (((Ka_1.out.set_ 0 (.bool b1)).set_ 1 (.slice A1 n1 c1)).set_ 2 (.bool d1)) (i := 3) (x := .slice A' n' c') (y := .slice B1 m1 k1) rfl nu); rw [hW] at h; exact h)
  have z2_2 := Lib.hid (by have h := ((((z2_1.out.one Ka_1.out (i := 0) (x := .bool b) (y := .bool b1) rfl nu).one (Ka_1.out.set_ 0 (.bool b1)) (i := 1) (x := .slice A n c) (y := .slice A1 n1 c1) rfl nu).one ((Ka_1.out.set_ 0 (.bool b1)).set_ 1 (.slice A1 n1 c1)) (i := 2) (x := .bool b') (y := .bool d1) rfl nu).one (((Ka_1.out.set_ 0 (.bool b1)).set_ 1 (.slice A1 n1 c1)).set_ 2 (.bool d1)) (i := 3) (x := .slice A' n' c') (y := .slice B1 m1 k1) rfl nu); rw [hW] at h; exact h)
  have Ka_2 := Lib.hid (show Blk w2 (w.heap.size) 26 #[.bool b1, .slice A1 n1 c1, .bool d1, .slice B1 m1 k1] from by rw [← hW]; exact ((((Ka_1.out.set_ 0 (.bool b1)).set_ 1 (.slice A1 n1 c1)).set_ 2 (.bool d1)).set_ 3 (.slice B1 m1 k1)))
  have HB_2 := Lib.hid (show Below w.heap.size w w2 from by rw [← hW]; exact (bset (bset (bset (bset HB_1.out (by omega)) (by omega)) (by omega)) (by omega)))
  have hs_2 : w.heap.size ≤ w2.heap.size := HB_2.out.size
  have hz_2 : w1.heap.size ≤ w2.heap.size := by rw [← hW]; simp [World.setCell]
  have hq_2 := Lib.hid (show w2.heap.size = w1.heap.size from by rw [← hW]; simp [World.setCell])
  clear hW z_1 z2_1 Ka_1 HB_1 p10 p11 p12 p13 l1 r10 r11 r12 r13
  go_wp2
  obtain ⟨p20, p21, p22, p23, l2⟩ := Ka_2.out.use4
  have tok0 : True := trivial
  have tok1 : True := trivial
  go_region_held3 (fun w' => w'.cell? ⟨w.heap.size, 0, none⟩ = some (.bool b1) ∧ w'.cell? ⟨w.heap.size, 1, none⟩ = some (.slice A1 n1 c1) ∧ w'.cell? ⟨w.heap.size, 2, none⟩ = some (.bool d1) ∧ w'.cell? ⟨w.heap.size, 3, none⟩ = some (.slice B1 m1 k1)) (first | (refine ⟨?_, ?_, ?_, ?_⟩ <;> (first | with_reducible assumption | ((with_reducible refine Eq.trans (cell_drew _ _) ?_); with_reducible assumption) | ((rw [cell_far4 _ _ _ _ _ _ _ _ (by omega)]); with_reducible assumption) | ((rw [cell_far2 _ _ _ _ _ _ (by omega)]); with_reducible assumption) | go_keep)) | trivial | go_keep)
    (first
      | (go_at_call 72; have _t := tok0; clear _t tok0; ((with_reducible refine Calls.mono (of_any 1 _ (by omega) (by omega)) ?_)); rintro e w3 ⟨v, rfl, h, hb⟩; obtain ⟨b3, A3, n3, c3, rfl, -, -, h⟩ := h.form; have hB := (show Below w2.heap.size w2 w3 from by first | exact hb | exact bundrew hb | exact bun hb | exact bundrew (bun hb) | exact bun (bundrew hb)); have z_3 := Lib.hid (z_2.out.below hB); have z2_3 := Lib.hid (z2_2.out.below hB); have Ka_3 := Lib.hid (Ka_2.out.below hB); have o_3 := Lib.hid (h); have HB_3 := Lib.hid (below_trans HB_2.out hB); have hs_3 : w.heap.size ≤ w3.heap.size := HB_3.out.size; have hz_3 : w2.heap.size + 0 ≤ w3.heap.size := (by have h := hb.size; (try simp at h); omega); clear hB hb z_2 z2_2 Ka_2 HB_2 p20 p21 p22 p23 l2; obtain ⟨p30, p31, p32, p33, l3⟩ := Ka_3.out.use4)
      | (go_at_call 52; have _t := tok1; clear _t tok1; ((with_reducible refine Calls.mono (li_cmp_is r HC.out (IsInt.lim (k := k) (by first | exact z2_3.out | exact z2_3.out.drew_ | exact z2_3.out.alloc_ _ | exact (z2_3.out.alloc_ _).drew_) BD.out) (IsInt.lim (k := 1) (by first | exact o_3.out | exact o_3.out.drew_ | exact o_3.out.alloc_ _ | exact (o_3.out.alloc_ _).drew_) (by decide)) (by omega) (by omega)) ?_)); rintro e w4 ⟨rfl, hb⟩; have hB := (show Below w3.heap.size w3 w4 from by first | exact hb | exact bundrew hb | exact bun hb | exact bundrew (bun hb) | exact bun (bundrew hb)); have z_4 := Lib.hid (z_3.out.below hB); have z2_4 := Lib.hid (z2_3.out.below hB); have Ka_4 := Lib.hid (Ka_3.out.below hB); have HB_4 := Lib.hid (below_trans HB_3.out hB); have hs_4 : w.heap.size ≤ w4.heap.size := HB_4.out.size; have hz_4 : w3.heap.size + 0 ≤ w4.heap.size := (by have h := hb.size; (try simp at h); omega); clear hB hb z_3 z2_3 o_3 Ka_3 HB_3 p30 p31 p32 p33 l3; obtain ⟨p40, p41, p42, p43, l4⟩ := Ka_4.out.use4))
  go_wp2
  obtain ⟨p50, p51, p52, p53, l5⟩ := Ka_4.out.use4
  have tok0 : True := trivial
  have tok1 : True := trivial
  go_region_held3 (fun w' => w'.cell? ⟨w.heap.size, 0, none⟩ = some (.bool b1) ∧ w'.cell? ⟨w.heap.size, 1, none⟩ = some (.slice A1 n1 c1) ∧ w'.cell? ⟨w.heap.size, 2, none⟩ = some (.bool d1) ∧ w'.cell? ⟨w.heap.size, 3, none⟩ = some (.slice B1 m1 k1)) (first | (refine ⟨?_, ?_, ?_, ?_⟩ <;> (first | with_reducible assumption | ((with_reducible refine Eq.trans (cell_drew _ _) ?_); with_reducible assumption) | ((rw [cell_far4 _ _ _ _ _ _ _ _ (by omega)]); with_reducible assumption) | ((rw [cell_far2 _ _ _ _ _ _ (by omega)]); with_reducible assumption) | go_keep)) | trivial | go_keep)
    (first
      | (go_at_call 85; have _t := tok0; clear _t tok0; ((with_reducible refine Calls.mono (li_text (IsInt.lim (k := k) (by first | exact z_4.out | exact z_4.out.drew_ | exact z_4.out.alloc_ _ | exact (z_4.out.alloc_ _).drew_) BN.out) hk) ?_)); rintro e w5 ⟨rfl, hb⟩; rw [HS1.out]; have hB := (show Below w4.heap.size w4 w5 from by first | exact hb | exact bundrew hb | exact bun hb | exact bundrew (bun hb) | exact bun (bundrew hb)); have z_5 := Lib.hid (z_4.out.below hB); have z2_5 := Lib.hid (z2_4.out.below hB); have Ka_5 := Lib.hid (Ka_4.out.below hB); have HB_5 := Lib.hid (below_trans HB_4.out hB); have hs_5 : w.heap.size ≤ w5.heap.size := HB_5.out.size; have hz_5 : w4.heap.size + 0 ≤ w5.heap.size := (by have h := hb.size; (try simp at h); omega); clear hB hb z_4 z2_4 Ka_4 HB_4 p40 p41 p42 p43 l4 p50 p51 p52 p53 l5; obtain ⟨p60, p61, p62, p63, l6⟩ := Ka_5.out.use4)
      | (go_at_call 85; have _t := tok1; clear _t tok1; ((with_reducible refine Calls.mono (li_text (IsInt.lim (k := k) (by first | exact z2_5.out | exact z2_5.out.drew_ | exact z2_5.out.alloc_ _ | exact (z2_5.out.alloc_ _).drew_) BD.out) hk) ?_)); rintro e w6 ⟨rfl, hb⟩; rw [HS2.out]; have hB := (show Below w5.heap.size w5 w6 from by first | exact hb | exact bundrew hb | exact bun hb | exact bundrew (bun hb) | exact bun (bundrew hb)); have z_6 := Lib.hid (z_5.out.below hB); have z2_6 := Lib.hid (z2_5.out.below hB); have Ka_6 := Lib.hid (Ka_5.out.below hB); have HB_6 := Lib.hid (below_trans HB_5.out hB); have hs_6 : w.heap.size ≤ w6.heap.size := HB_6.out.size; have hz_6 : w5.heap.size + 0 ≤ w6.heap.size := (by have h := hb.size; (try simp at h); omega); clear hB hb z_5 z2_5 Ka_5 HB_5 p60 p61 p62 p63 l6; obtain ⟨p70, p71, p72, p73, l7⟩ := Ka_6.out.use4))
  go_wp2
  go_ret
  exact ⟨by rw [HT.out]; rfl, HB_6.out⟩

theorem q_text {k : Nat} {w : World} {v : Value} {q : Rat} (h : LimQ k w v q) (hk : k ≤ 1000) (h1 : 1 ≤ k) : Calls Tryz.prog 44 #[v] w fun e w' => e = .returned (.string (textQ q)) ∧ Below w.heap.size w w' := by
  have H := h
  obtain ⟨X, Y, h, rfl⟩ := h
  obtain ⟨b, A, n, c, b', A', n', c', rfl, -, -⟩ := h.form
  by_cases hd : (ratOf X Y).den = 1
  · exact text_q1 b A n c b' A' n' c' w k _ H hk h1 hd
  · exact text_q0 b A n c b' A' n' c' w k _ H hk h1 hd
end Go.Proofs.YtglcififcldchaaGreatDoor

/-
  DERIVED: THE SHELF's CONTRACTS AT THIS DUMP, IN PLAIN WORDS (tools/lay-plain.mjs out of 'YtglcififcldchaaGreatDoorSh.lean', which tools/lay-shelf.mjs wrote): THE SAME DECLARATIONS UNDER THE SAME NAMES: 'import', 'namespace', 'open', 'def', 'theorem' AND NOTHING ELSE: no command of the shelf's: FOR A HAND-IN. Each laying: the table of numbers ('.._ren') and one theorem, a field a fact of the dump's own or the kernel's comparison; each contract: ONE APPLICATION.
-/
namespace Go.Proofs
open Go.Shelf
def Tryz.lays161_ren : Go.Shelf.Ren := ⟨fun | 161 => 156 | 231 => 174 | 227 => 175 | 233 => 176 | 235 => 177 | 228 => 187 | 197 => 188 | 151 => 189 | 260 => 192 | 152 => 193 | 137 => 194 | 119 => 195 | 224 => 171 | 225 => 170 | 217 => 169 | 266 => 185 | n => n, fun | 9 => 9 | 4 => 4 | 3 => 3 | 5 => 5 | 117 => 164 | 116 => 163 | 0 => 0 | 124 => 167 | 105 => 174 | 21 => 21 | 119 => 181 | 46 => 99 | 139 => 184 | 138 => 183 | n => n, fun | 3 => 1 | 4 => 2 | n => n⟩
theorem Tryz.lays161 : Go.Proofs.Lays.n161 Tryz.prog Tryz.lays161_ren := {
  mixed := by kernel_rfl
  f119 := Tryz.func195.trans (congrArg some (by kernel_rfl))
  f137 := Tryz.func194.trans (congrArg some (by kernel_rfl))
  f151 := Tryz.func189.trans (congrArg some (by kernel_rfl))
  f152 := Tryz.func193.trans (congrArg some (by kernel_rfl))
  f161 := Tryz.func156.trans (congrArg some (by kernel_rfl))
  f197 := Tryz.func188.trans (congrArg some (by kernel_rfl))
  f217 := Tryz.func169.trans (congrArg some (by kernel_rfl))
  f224 := Tryz.func171.trans (congrArg some (by kernel_rfl))
  f225 := Tryz.func170.trans (congrArg some (by kernel_rfl))
  f227 := Tryz.func175.trans (congrArg some (by kernel_rfl))
  f228 := Tryz.func187.trans (congrArg some (by kernel_rfl))
  f231 := Tryz.func174.trans (congrArg some (by kernel_rfl))
  f233 := Tryz.func176.trans (congrArg some (by kernel_rfl))
  f235 := Tryz.func177.trans (congrArg some (by kernel_rfl))
  f260 := Tryz.func192.trans (congrArg some (by kernel_rfl))
  f266 := Tryz.func185.trans (congrArg some (by kernel_rfl))
  t0 := Tryz.underlying0
  a0 := Tryz.isAgg0
  z0 := Tryz.sizeOf0
  v0 := Tryz.zeroValue0
  t3 := Tryz.underlying3
  a3 := Tryz.isAgg3
  z3 := Tryz.sizeOf3
  v3 := Tryz.zeroValue3
  t4 := Tryz.underlying4
  a4 := Tryz.isAgg4
  z4 := Tryz.sizeOf4
  v4 := Tryz.zeroValue4
  t5 := Tryz.underlying5
  a5 := Tryz.isAgg5
  z5 := Tryz.sizeOf5
  v5 := Tryz.zeroValue5
  t9 := Tryz.underlying9
  a9 := Tryz.isAgg9
  z9 := Tryz.sizeOf9
  v9 := Tryz.zeroValue9
  t21 := Tryz.underlying21
  a21 := Tryz.isAgg21
  z21 := Tryz.sizeOf21
  v21 := Tryz.zeroValue21
  t46 := Tryz.underlying99
  a46 := Tryz.isAgg99
  z46 := Tryz.sizeOf99
  v46 := Tryz.zeroValue99
  t105 := Tryz.underlying174
  a105 := Tryz.isAgg174
  z105 := Tryz.sizeOf174
  v105 := Tryz.zeroValue174
  t116 := Tryz.underlying163
  a116 := Tryz.isAgg163
  z116 := Tryz.sizeOf163
  t117 := Tryz.underlying164
  a117 := Tryz.isAgg164
  z117 := Tryz.sizeOf164
  v117 := Tryz.zeroValue164
  t119 := Tryz.underlying181
  a119 := Tryz.isAgg181
  z119 := Tryz.sizeOf181
  t124 := Tryz.underlying167
  a124 := Tryz.isAgg167
  z124 := Tryz.sizeOf167
  v124 := Tryz.zeroValue167
  t138 := Tryz.underlying183
  a138 := Tryz.isAgg183
  z138 := Tryz.sizeOf183
  v138 := Tryz.zeroValue183
  t139 := Tryz.underlying184
  a139 := Tryz.isAgg184
  z139 := Tryz.sizeOf184
  v139 := Tryz.zeroValue184
  g3 := by kernel_rfl
  g4 := by kernel_rfl }
open Go.RowKit in
/-- strings.TrimLeft: "TrimLeft returns a slice of the string s with all leading Unicode code points contained in cutset removed.": AT A cutset OF ONE ASCII BYTE. The world is as it was. (LAID: no walk: one application.) -/
theorem Tryz.strings_TrimLeft_one (s : ByteArray) (c : UInt8) (hc : c.toNat < 128) (w : World) :
    Calls Tryz.prog 156 #[.string s, .string ⟨#[c]⟩] w fun e w' => e = .returned (.string ⟨(Lib.trimLeftB s.data.toList c).toArray⟩) ∧ w' = w := Any.strings_TrimLeft_one Tryz.lays161 s c hc w
def Tryz.lays219_ren : Go.Shelf.Ren := ⟨fun | 219 => 152 | 217 => 169 | 225 => 170 | 224 => 171 | 267 => 172 | 266 => 185 | 314 => 186 | n => n, fun | 9 => 9 | 3 => 3 | 4 => 4 | 5 => 5 | 46 => 99 | 146 => 122 | 51 => 86 | n => n, fun | 1 => 0 | n => n⟩
theorem Tryz.lays219 : Go.Proofs.Lays.n219 Tryz.prog Tryz.lays219_ren := {
  mixed := by kernel_rfl
  f217 := Tryz.func169.trans (congrArg some (by kernel_rfl))
  f219 := Tryz.func152.trans (congrArg some (by kernel_rfl))
  f224 := Tryz.func171.trans (congrArg some (by kernel_rfl))
  f225 := Tryz.func170.trans (congrArg some (by kernel_rfl))
  f266 := Tryz.func185.trans (congrArg some (by kernel_rfl))
  f267 := Tryz.func172.trans (congrArg some (by kernel_rfl))
  f314 := Tryz.func186.trans (congrArg some (by kernel_rfl))
  t3 := Tryz.underlying3
  a3 := Tryz.isAgg3
  z3 := Tryz.sizeOf3
  v3 := Tryz.zeroValue3
  t4 := Tryz.underlying4
  a4 := Tryz.isAgg4
  z4 := Tryz.sizeOf4
  v4 := Tryz.zeroValue4
  t5 := Tryz.underlying5
  a5 := Tryz.isAgg5
  z5 := Tryz.sizeOf5
  v5 := Tryz.zeroValue5
  t9 := Tryz.underlying9
  a9 := Tryz.isAgg9
  z9 := Tryz.sizeOf9
  v9 := Tryz.zeroValue9
  t46 := Tryz.underlying99
  a46 := Tryz.isAgg99
  z46 := Tryz.sizeOf99
  v46 := Tryz.zeroValue99
  t51 := Tryz.underlying86
  a51 := Tryz.isAgg86
  z51 := Tryz.sizeOf86
  v51 := Tryz.zeroValue86
  t146 := Tryz.underlying122
  a146 := Tryz.isAgg122
  z146 := Tryz.sizeOf122
  v146 := Tryz.zeroValue122
  g1 := by kernel_rfl }
open Go.RowKit Go.Lib in
/-- internal/stringslite.Index (what strings.Index calls) AT A substr OF ONE BYTE c: IT RETURNS 'Lib.indexByte s c'; the world is as it was. (LAID: no walk: one application.) -/
theorem Tryz.stringslite_Index_one (s : ByteArray) (c : UInt8) (w : World) :
    Calls Tryz.prog 152 #[.string s, .string ⟨#[c]⟩] w fun e w' => e = .returned (.int .i64 (Lib.indexByte s.data.toList c)) ∧ w' = w := Any.stringslite_Index_one Tryz.lays219 s c w
def Tryz.lays99_ren : Go.Shelf.Ren := ⟨fun | 99 => 158 | 206 => 173 | n => n, fun | 9 => 9 | 4 => 4 | 3 => 3 | n => n, fun | n => n⟩
theorem Tryz.lays99 : Go.Proofs.Lays.n99 Tryz.prog Tryz.lays99_ren := {
  mixed := by kernel_rfl
  f99 := Tryz.func158.trans (congrArg some (by kernel_rfl))
  f206 := Tryz.func173.trans (congrArg some (by kernel_rfl))
  t3 := Tryz.underlying3
  a3 := Tryz.isAgg3
  z3 := Tryz.sizeOf3
  v3 := Tryz.zeroValue3
  t4 := Tryz.underlying4
  a4 := Tryz.isAgg4
  z4 := Tryz.sizeOf4
  v4 := Tryz.zeroValue4
  t9 := Tryz.underlying9
  a9 := Tryz.isAgg9
  z9 := Tryz.sizeOf9
  v9 := Tryz.zeroValue9 }
open Go.RowKit Go.Lib in
/-- strings.HasPrefix: "HasPrefix reports whether the string s begins with prefix.": IT RETURNS 'Lib.hasPrefix s prefix'; the world is as it was. (LAID: no walk: one application.) -/
theorem Tryz.strings_HasPrefix (s p : ByteArray) (w : World) :
    Calls Tryz.prog 158 #[.string s, .string p] w fun e w' => e = .returned (.bool (Lib.hasPrefix s.data.toList p.data.toList)) ∧ w' = w := Any.strings_HasPrefix Tryz.lays99 s p w
def Tryz.lays212_ren : Go.Shelf.Ren := ⟨fun | 212 => 157 | 263 => 178 | 264 => 179 | n => n, fun | 46 => 99 | 51 => 86 | 146 => 122 | 53 => 98 | 148 => 169 | n => n, fun | n => n⟩
theorem Tryz.lays212 : Go.Proofs.Lays.n212 Tryz.prog Tryz.lays212_ren := {
  mixed := by kernel_rfl
  f212 := Tryz.func157.trans (congrArg some (by kernel_rfl))
  f263 := Tryz.func178.trans (congrArg some (by kernel_rfl))
  f264 := Tryz.func179.trans (congrArg some (by kernel_rfl))
  t46 := Tryz.underlying99
  a46 := Tryz.isAgg99
  z46 := Tryz.sizeOf99
  v46 := Tryz.zeroValue99
  t51 := Tryz.underlying86
  a51 := Tryz.isAgg86
  z51 := Tryz.sizeOf86
  v51 := Tryz.zeroValue86
  t53 := Tryz.underlying98
  a53 := Tryz.isAgg98
  z53 := Tryz.sizeOf98
  v53 := Tryz.zeroValue98
  t146 := Tryz.underlying122
  a146 := Tryz.isAgg122
  z146 := Tryz.sizeOf122
  v146 := Tryz.zeroValue122
  t148 := Tryz.underlying169
  a148 := Tryz.isAgg169
  z148 := Tryz.sizeOf169
  v148 := Tryz.zeroValue169 }
open Go.RowKit Go.Lib in
/-- math/bits.Mul: "Mul returns the full-width product of x and y": on a machine of 64 bits: Mul64's. (LAID: no walk: one application.) -/
theorem Tryz.bits_Mul (x y : Nat) (hx : x < 18446744073709551616) (hy : y < 18446744073709551616) (w : World) :
    Calls Tryz.prog 157 #[.int .u64 x, .int .u64 y] w fun e w' => e = .returned (.tuple #[.int .u64 ((x * y / 18446744073709551616 : Nat) : Int), .int .u64 ((x * y % 18446744073709551616 : Nat) : Int)]) ∧ w' = w := Any.bits_Mul Tryz.lays212 x y hx hy w
end Go.Proofs
