/- The document's awake. -/
import Derived.Test.YteeomidlnijfbaaPNv
namespace Go.Proofs.Yteeomidlnijfbaa
open Go.RowKit
set_option linter.unusedSimpArgs false
set_option linter.unusedVariables false

/-- Rows of one byte each, one block behind the other, and their list. -/
def oneR (g : Nat) (f : Nat → Nat) : Nat → RowD := fun i => ⟨some ⟨g + i, 0, none⟩, 1, 1, fun _ => f i⟩
theorem ones_in {u : World} {g lb n : Nat} {f : Nat → Nat} (hf : ∀ i, f i < 256) (hb : ∀ i, i < n → Boxed u (g + i) 5 (.int .u8 (f i : Nat))) {cs : Array Value} {t : TypeId} {m : Nat × Nat} (hl : u.heap[lb]? = some (.cells cs t m)) (hc : ∀ i, i < n → cs[i]? = some (.slice (some ⟨g + i, 0, none⟩) 1 1)) :
    RowsIn u (some ⟨lb, 0, none⟩) n (oneR g f) := fun i hi => by
  refine ⟨_, rfl, ?_, ⟨_, 1, rfl, Nat.le_refl _, fun j hj => ⟨_, rfl, ?_⟩, fun j hj => hf i⟩, by show (1 : Nat) ≤ _; decide⟩
  · rw [add_mk, Nat.zero_add, cell_of_row _ _ i cs _ _ hl]
    exact hc i hi
  · have hj : j < 1 := hj
    obtain rfl : j = 0 := by omega
    exact (hb i hi).cell
theorem ones_recs (g : Nat) (f : Nat → Nat) (n : Nat) {u : World} {lb c : Nat} (h : RowsIn u (some ⟨lb, 0, none⟩) n (oneR g f)) : RowsBy u (.slice (some ⟨lb, 0, none⟩) n c) (recsOf (oneR g f) n) := by
  have hl : (recsOf (oneR g f) n).length = n := by unfold recsOf; simp
  refine ⟨_, c, by rw [hl], fun i r hi => ?_⟩
  have hin : i < n := by
    by_cases e : i < n
    · exact e
    · rw [List.getElem?_eq_none (by omega)] at hi; cases hi
  obtain ⟨ad, e, h1, h2, h3⟩ := h i hin
  have hr : r = ((oneR g f i).n, (oneR g f i).f) := by
    unfold recsOf at hi
    simp [hin] at hi
    exact hi.symm
  subst hr
  exact ⟨ad, _, e, h1, h2, h3⟩
theorem built1 {w0 w : World} {gd gq : Nat} {S : DS} {Q : QS} {Φ : World → Prop} (h : HeldS w0 w gd gq S Q Φ) (x : Nat) (hx : x < 256) :
    HeldS w0 ((w.alloc (.cells #[.int .u8 (x : Nat)] 5)).alloc (.cells #[.slice (some ⟨w.heap.size, 0, none⟩) 1 1] 35)) gd gq S Q fun u => Φ u ∧ RowsIn u (some ⟨w.heap.size + 1, 0, none⟩) 1 (oneR w.heap.size fun _ => x) := by
  refine h.more ((below_new _ _).trans ((below_new _ _).mono (by simp))) fun u hu hs => ?_
  have hs1 : ((w.alloc (.cells #[.int .u8 (x : Nat)] 5)).alloc (.cells #[.slice (some ⟨w.heap.size, 0, none⟩) 1 1] 35)).heap.size = w.heap.size + 2 := by simp
  have b1 := (Boxed.new w 5 (.int .u8 (x : Nat))).alloc (.cells #[.slice (some ⟨w.heap.size, 0, none⟩) 1 1] 35)
  have b2 := Boxed.new (w.alloc (.cells #[.int .u8 (x : Nat)] 5)) 35 (.slice (some ⟨w.heap.size, 0, none⟩) 1 1)
  rw [World.size_alloc] at b2
  refine ones_in (fun _ => hx) (fun i hi => ?_) ((hu (w.heap.size + 1) (by omega) (by omega)).trans b2) fun i hi => ?_
  · obtain rfl : i = 0 := by omega
    exact (hu w.heap.size (Nat.le_refl _) (by omega)).trans b1
  · obtain rfl : i = 0 := by omega
    rfl
abbrev lit3 (w : World) (x y z : Nat) : World := ((((w.alloc (.cells #[.int .u8 (x : Nat)] 5)).alloc (.cells #[.int .u8 (y : Nat)] 5)).alloc (.cells #[.int .u8 (z : Nat)] 5)).alloc (.cells #[.slice (some ⟨w.heap.size, 0, none⟩) 1 1, .slice (some ⟨w.heap.size + 1, 0, none⟩) 1 1, .slice (some ⟨w.heap.size + 1 + 1, 0, none⟩) 1 1] 35))
abbrev f3 (x y z : Nat) : Nat → Nat := fun i => if i = 0 then x else if i = 1 then y else z
theorem lit3_below (w : World) (x y z : Nat) : Below w.heap.size w (lit3 w x y z) := (((below_new _ _).trans ((below_new _ _).mono (by simp))).trans ((below_new _ _).mono (by simp; omega))).trans ((below_new _ _).mono (by simp; omega))
theorem lit3_rows (w : World) {x y z : Nat} (hx : x < 256) (hy : y < 256) (hz : z < 256) {u : World} (hu : ∀ k, w.heap.size ≤ k → k < (lit3 w x y z).heap.size → u.heap[k]? = (lit3 w x y z).heap[k]?) : RowsIn u (some ⟨w.heap.size + 1 + 1 + 1, 0, none⟩) 3 (oneR w.heap.size (f3 x y z)) := by
  have hs1 : (lit3 w x y z).heap.size = w.heap.size + 4 := by simp
  have b1 := (((Boxed.new w 5 (.int .u8 (x : Nat))).alloc (.cells #[.int .u8 (y : Nat)] 5)).alloc (.cells #[.int .u8 (z : Nat)] 5)).alloc (.cells #[.slice (some ⟨w.heap.size, 0, none⟩) 1 1, .slice (some ⟨w.heap.size + 1, 0, none⟩) 1 1, .slice (some ⟨w.heap.size + 1 + 1, 0, none⟩) 1 1] 35)
  have b2 := ((Boxed.new (w.alloc (.cells #[.int .u8 (x : Nat)] 5)) 5 (.int .u8 (y : Nat))).alloc (.cells #[.int .u8 (z : Nat)] 5)).alloc (.cells #[.slice (some ⟨w.heap.size, 0, none⟩) 1 1, .slice (some ⟨w.heap.size + 1, 0, none⟩) 1 1, .slice (some ⟨w.heap.size + 1 + 1, 0, none⟩) 1 1] 35)
  have b3 := (Boxed.new ((w.alloc (.cells #[.int .u8 (x : Nat)] 5)).alloc (.cells #[.int .u8 (y : Nat)] 5)) 5 (.int .u8 (z : Nat))).alloc (.cells #[.slice (some ⟨w.heap.size, 0, none⟩) 1 1, .slice (some ⟨w.heap.size + 1, 0, none⟩) 1 1, .slice (some ⟨w.heap.size + 1 + 1, 0, none⟩) 1 1] 35)
  have b4 := heap_alloc_new (((w.alloc (.cells #[.int .u8 (x : Nat)] 5)).alloc (.cells #[.int .u8 (y : Nat)] 5)).alloc (.cells #[.int .u8 (z : Nat)] 5)) (.cells #[.slice (some ⟨w.heap.size, 0, none⟩) 1 1, .slice (some ⟨w.heap.size + 1, 0, none⟩) 1 1, .slice (some ⟨w.heap.size + 1 + 1, 0, none⟩) 1 1] 35)
  rw [World.size_alloc] at b2
  rw [World.size_alloc, World.size_alloc] at b3
  rw [World.size_alloc, World.size_alloc, World.size_alloc] at b4
  refine ones_in (fun i => by show (if i = 0 then x else if i = 1 then y else z) < 256; split <;> (try split) <;> omega) (fun i hi => ?_) ((hu (w.heap.size + 1 + 1 + 1) (by omega) (by omega)).trans b4) fun i hi => ?_
  · rcases (by omega : i = 0 ∨ i = 1 ∨ i = 2) with rfl | rfl | rfl
    · exact (hu w.heap.size (Nat.le_refl _) (by omega)).trans b1
    · exact (hu (w.heap.size + 1) (by omega) (by omega)).trans b2
    · exact (hu (w.heap.size + 1 + 1) (by omega) (by omega)).trans b3
  · rcases (by omega : i = 0 ∨ i = 1 ∨ i = 2) with rfl | rfl | rfl <;> rfl
theorem built3 {w0 w : World} {gd gq : Nat} {S : DS} {Q : QS} {Φ : World → Prop} (h : HeldS w0 w gd gq S Q Φ) {x y z : Nat} (hx : x < 256) (hy : y < 256) (hz : z < 256) :
    HeldS w0 (lit3 w x y z) gd gq S Q fun u => Φ u ∧ RowsIn u (some ⟨w.heap.size + 1 + 1 + 1, 0, none⟩) 3 (oneR w.heap.size (f3 x y z)) :=
  h.more (lit3_below w x y z) fun u hu _ => lit3_rows w hx hy hz hu
theorem built0 {w0 w : World} {gd gq : Nat} {S : DS} {Q : QS} {Φ : World → Prop} (h : HeldS w0 w gd gq S Q Φ) :
    HeldS w0 (w.alloc (.cells #[.slice none 0 0] 35)) gd gq S Q fun u => Φ u ∧ RowsIn u (some ⟨w.heap.size, 0, none⟩) 1 (fun _ => ⟨none, 0, 0, fun _ => 0⟩) := by
  refine h.more (below_new _ _) fun u hu hs => fun i hi => ?_
  obtain rfl : i = 0 := by omega
  have b2 := Boxed.new w 35 (.slice none 0 0)
  have b3 : Boxed u w.heap.size 35 (.slice none 0 0) := (hu w.heap.size (Nat.le_refl _) (by simp)).trans b2
  exact ⟨_, rfl, b3.cell, ⟨none, 0, rfl, Nat.le_refl _, fun j hj => absurd hj (Nat.not_lt_zero _), fun j hj => absurd hj (Nat.not_lt_zero _)⟩, by show (0 : Nat) ≤ _; decide⟩
theorem need_one : needF 1 = 1 := by unfold needF; decide
theorem need_zero : needF 0 = 0 := by unfold needF; decide
theorem sum_ones (g : Nat) (f : Nat → Nat) : ∀ n, sumN (oneR g f) n = n
  | 0 => rfl
  | n + 1 => by
    show sumN (oneR g f) n + needF 1 = n + 1
    rw [sum_ones g f n, need_one]
theorem takes_ones (Q : QS) (n g : Nat) (f : Nat → Nat) : takesC Q n (oneR g f) = if Q.behind - Q.ende < n ∨ 4294967295 - Q.top < n then 3 else 0 := by
  unfold takesC
  rw [sum_ones, if_neg]
  rintro ⟨i, _, h⟩
  have h : needF 1 = 0 := h
  rw [need_one] at h
  cases h
theorem takes_nil (Q : QS) : takesC Q 1 (fun _ => ⟨none, 0, 0, fun _ => 0⟩) = 1 := by
  unfold takesC
  rw [if_pos ⟨0, by omega, need_zero⟩]
set_option maxRecDepth 100000 in
set_option maxHeartbeats 4000000 in
theorem awake7 (w : World) : Calls Try.prog 11 #[] w fun e w' => e = .returned (.bool true) ∧ Below w.heap.size w w' := by
  have HNEW := Lib.hid (held_new (w0 := w) (w := w) 6 (by omega) (by omega) (Below.refl _ _))
  have HMK : Hid (∀ u gd, Held w u gd (DS.new 6) (fun _ => True) → Calls Try.prog 13 #[.pointer (some ⟨gd, 0, none⟩), .int .i64 1, .int .i64 4, .int .u32 1] u fun e w' => ∃ gq, e = .returned (.tuple #[.pointer (some ⟨gq, 0, none⟩), .int .i64 0]) ∧ HeldS w w' gd gq (DS.new 6) ⟨1, 5, 1, 1, 4294967295⟩ fun _ => True) := fun u gd h => by
    have hh := h
    obtain ⟨F, Z, hF, _⟩ := hh
    refine (snew_ok hF 1 4 1 (by decide) (by decide) (by decide) (by decide)).mono ?_
    rintro e w' ⟨⟨gq, rfl, hg, hq⟩, hb⟩
    exact ⟨gq, rfl, HeldS.of h hb hg hq⟩
  have HNO : Hid (∀ u gd gq Q, HeldS w u gd gq (DS.new 6) Q (fun _ => True) → Calls Try.prog 13 #[.pointer (some ⟨gd, 0, none⟩), .int .i64 3, .int .i64 4, .int .u32 1] u fun e w' => e = .returned (.tuple #[.pointer none, .int .i64 1]) ∧ HeldS w w' gd gq (DS.new 6) Q fun _ => True) := fun u gd gq Q h => by
    obtain ⟨F, hF⟩ := h.dsk
    refine (snew_no hF 3 4 1 (by decide) (by decide) (by decide) (by decide) (by decide)).mono ?_
    rintro e w' ⟨rfl, hb⟩
    exact ⟨rfl, h.below hb⟩
  have HA1 : Hid (∀ u gd gq g lb c, HeldS w u gd gq (DS.new 6) ⟨1, 5, 1, 1, 4294967295⟩ (fun u => True ∧ RowsIn u (some ⟨lb, 0, none⟩) 1 (oneR g fun _ => 1)) → Calls Try.prog 16 #[.pointer (some ⟨gq, 0, none⟩), .slice (some ⟨lb, 0, none⟩) 1 c] u fun e w' => e = .returned (.int .i64 3) ∧ HeldS w w' gd gq (DS.new 6) ⟨1, 5, 1, 1, 4294967295⟩ fun _ => True) := fun u gd gq g lb c h => by
    have ht : takesC ⟨1, 5, 1, 1, 4294967295⟩ 1 (oneR g fun _ => 1) = 3 := by rw [takes_ones]; rfl
    refine (h.add (c := c) (fun u h => h.2) (by decide) (by decide)).mono ?_
    rintro e w' ⟨S', Q', k, rfl, ha, hh⟩
    cases ha with
    | no _ => exact ⟨by rw [ht], hh.imp fun _ _ => trivial⟩
    | gone h0 => rw [ht] at h0; cases h0
    | none_ h0 => rw [ht] at h0; cases h0
    | cut h0 => rw [ht] at h0; cases h0
    | lost h0 => rw [ht] at h0; cases h0
    | kept h0 => rw [ht] at h0; cases h0
  have HS1 : Hid (∀ u gd gq, HeldS w u gd gq (DS.new 6) ⟨1, 5, 1, 1, 4294967295⟩ (fun _ => True) → Calls Try.prog 14 #[.pointer (some ⟨gq, 0, none⟩)] u fun e w' => ∃ A c, e = .returned (.tuple #[.slice A 0 c, .int .i64 0]) ∧ Calm (DS.new 6) ⟨1, 5, 1, 1, 0⟩ [] ∧ HeldS w w' gd gq (DS.new 6) ⟨1, 5, 1, 1, 0⟩ fun _ => True) := fun u gd gq h => by
    refine (h.scan rfl).mono ?_
    rintro e w' ⟨rs, en, v, l, rfl, hs, hr, hh⟩
    obtain ⟨rfl, rfl, ht, hc⟩ := calm_new (Q := ⟨1, 5, 1, 1, 4294967295⟩) rfl rfl rfl h.box.2 (by decide) (fun k _ _ => new_cell 6 k) hs
    obtain ⟨A, c, rfl⟩ := hr.form
    rw [ht] at hc hh
    exact ⟨A, c, rfl, hc, hh⟩
  have HA3 : Hid (∀ u gd gq g lb c, Calm (DS.new 6) ⟨1, 5, 1, 1, 0⟩ [] → HeldS w u gd gq (DS.new 6) ⟨1, 5, 1, 1, 0⟩ (fun u => True ∧ RowsIn u (some ⟨lb, 0, none⟩) 3 (oneR g (f3 1 2 3))) → Calls Try.prog 16 #[.pointer (some ⟨gq, 0, none⟩), .slice (some ⟨lb, 0, none⟩) 3 c] u fun e w' => ∃ S2, e = .returned (.int .i64 0) ∧ Calm S2 ⟨1, 5, 1, 4, 3⟩ (recsOf (oneR g (f3 1 2 3)) 3) ∧ HeldS w w' gd gq S2 ⟨1, 5, 1, 4, 3⟩ fun _ => True) := fun u gd gq g lb c hc h => by
    have ht : takesC ⟨1, 5, 1, 1, 0⟩ 3 (oneR g (f3 1 2 3)) = 0 := by rw [takes_ones]; rfl
    refine (h.add (c := c) (fun u h => h.2) (by decide) (by decide)).mono ?_
    rintro e w' ⟨S', Q', k, rfl, ha, hh⟩
    rcases hc.add (fun i _ j _ => by show (if i = 0 then 1 else if i = 1 then 2 else 3) < 256; split <;> (try split) <;> decide) ha with ⟨e, h0, _⟩ | ⟨rfl, _, _, hq, hcc⟩
    · rw [ht] at e
      exact absurd e h0
    · have hq2 : Q' = ⟨1, 5, 1, 4, 3⟩ := by rw [hq, sum_ones]; rfl
      subst hq2
      exact ⟨S', rfl, hcc, hh.imp fun _ _ => trivial⟩
  have HS2 : Hid (∀ u gd gq S2 rs, Calm S2 ⟨1, 5, 1, 4, 3⟩ rs → HeldS w u gd gq S2 ⟨1, 5, 1, 4, 3⟩ (fun _ => True) → Calls Try.prog 14 #[.pointer (some ⟨gq, 0, none⟩)] u fun e w' => ∃ v rs2 T, e = .returned (.tuple #[v, .int .i64 0]) ∧ RowsBy w' v rs2 ∧ SameL rs rs2 ∧ HeldS w w' gd gq S2 ⟨1, 5, 1, 4, T⟩ fun _ => True) := fun u gd gq S2 rs hc h => by
    refine (h.scan hc.gone).mono ?_
    rintro e w' ⟨rs2, en, v, l, rfl, hs, hr, hh⟩
    obtain ⟨h1, rfl, _⟩ := hc.scan hs
    exact ⟨v, rs2, _, rfl, hr.by_ hs.few, h1, hh⟩
  have HFR : Hid (∀ u gd gq S2 T, HeldS w u gd gq S2 ⟨1, 5, 1, 4, T⟩ (fun _ => True) → Calls Try.prog 21 #[.pointer (some ⟨gq, 0, none⟩)] u fun e w' => e = .returned (.int .i64 1) ∧ Below u.heap.size u w') := fun u gd gq S2 T h => free_any h.box
  have HGN : Hid (∀ u gd gq S2 T, HeldS w u gd gq S2 ⟨1, 5, 1, 4, T⟩ (fun _ => True) → Calls Try.prog 36 #[.pointer (some ⟨gq, 0, none⟩)] u fun e w' => e = .returned (.int .u32 1) ∧ u = w') := fun u gd gq S2 T h => gen_any h.box
  have HAL : Hid (∀ u0 v rs2 g2, RowsBy u0 v rs2 → SameL (recsOf (oneR g2 (f3 1 2 3)) 3) rs2 → Calls Try.prog 19 #[v, .slice (some ⟨u0.heap.size + 1 + 1 + 1, 0, none⟩) 3 3] (lit3 u0 1 2 3) fun e w' => e = .returned (.bool true) ∧ Below (lit3 u0 1 2 3).heap.size (lit3 u0 1 2 3) w') := fun u0 v rs2 g2 h1 h2 =>
    alikeL_yes (h1.below (lit3_below u0 1 2 3)) (ones_recs u0.heap.size (f3 1 2 3) 3 (lit3_rows u0 (by decide) (by decide) (by decide) fun _ _ _ => rfl)) h2.symm (by rw [← h2.len]; unfold recsOf; simp)
  have HA0 : Hid (∀ u gd gq S2 T lb c, S2.P.length ≤ 900000 → HeldS w u gd gq S2 ⟨1, 5, 1, 4, T⟩ (fun u => True ∧ RowsIn u (some ⟨lb, 0, none⟩) 1 (fun _ => ⟨none, 0, 0, fun _ => 0⟩)) → Calls Try.prog 16 #[.pointer (some ⟨gq, 0, none⟩), .slice (some ⟨lb, 0, none⟩) 1 c] u fun e w' => e = .returned (.int .i64 1) ∧ Below w.heap.size w w') := fun u gd gq S2 T lb c hP h => by
    have ht := takes_nil ⟨1, 5, 1, 4, T⟩
    refine (h.add (c := c) (fun u h => h.2) (by decide) hP).mono ?_
    rintro e w' ⟨S', Q', k, rfl, ha, hh⟩
    cases ha with
    | no _ => exact ⟨by rw [ht], hh.bel⟩
    | gone h0 => rw [ht] at h0; cases h0
    | none_ h0 => rw [ht] at h0; cases h0
    | cut h0 => rw [ht] at h0; cases h0
    | lost h0 => rw [ht] at h0; cases h0
    | kept h0 => rw [ht] at h0; cases h0
  go_enter Try.func11, Try.ntmps11
  go_wp2_with (first
    | (go_at_call 12; refine HNEW.out.mono ?_; rintro e w1 ⟨gd, rfl, h1⟩; have H1 := Lib.hid h1; clear h1)
    | (have _t := H2; clear _t; go_at_call 13; refine (HNO.out _ _ _ _ H2.out).mono ?_; rintro e w3 ⟨rfl, h3⟩; have H3 := Lib.hid h3; clear h3)
    | (go_at_call 13; refine (HMK.out _ _ H1.out).mono ?_; rintro e w2 ⟨gq, rfl, h2⟩; have H2 := Lib.hid h2; clear h2)
    | (have _t := H9; clear _t; go_at_call 16; refine (HA0.out _ _ _ _ _ _ _ HP6.out (built0 H9.out)).mono ?_; rintro e w10 ⟨rfl, hb10⟩; have HB10 := Lib.hid hb10; clear hb10)
    | (have _t := H5; clear _t; go_at_call 16; refine (HA3.out _ _ _ _ _ _ HC5.out (built3 H5.out (x := 1) (y := 2) (z := 3) (by decide) (by decide) (by decide))).mono ?_; rintro e w6 ⟨S2, rfl, hc6, h6⟩; have HP6 := Lib.hid (show S2.P.length ≤ 900000 from by rw [hc6.P]; decide); have HC6 := Lib.hid hc6; have H6 := Lib.hid h6; clear hc6 h6)
    | (go_at_call 16; refine (HA1.out _ _ _ _ _ _ (built1 H3.out 1 (by decide))).mono ?_; rintro e w4 ⟨rfl, h4⟩; have H4 := Lib.hid h4; clear h4)
    | (have _t := H6; clear _t; go_at_call 14; refine (HS2.out _ _ _ _ _ HC6.out H6.out).mono ?_; rintro e w7 ⟨v7, rs7, T, rfl, hr7, hs7, h7⟩; have HR7 := Lib.hid hr7; have HS7 := Lib.hid hs7; have H7 := Lib.hid h7; clear hr7 hs7 h7)
    | (go_at_call 14; refine (HS1.out _ _ _ H4.out).mono ?_; rintro e w5 ⟨A5, c5, rfl, hc5, h5⟩; have HC5 := Lib.hid hc5; have H5 := Lib.hid h5; clear hc5 h5)
    | (go_at_call 21; refine (HFR.out _ _ _ _ _ H7.out).mono ?_; rintro e w8 ⟨rfl, hb8⟩; have HR8 := Lib.hid (HR7.out.below hb8); have H8 := Lib.hid (H7.out.below hb8); clear hb8)
    | (go_at_call 19; refine (HAL.out _ _ _ _ HR8.out HS7.out).mono ?_; rintro e w9 ⟨rfl, hb9⟩; have H9 := Lib.hid ((H8.out.below (lit3_below _ 1 2 3)).below hb9); clear hb9)
    | (go_at_call 36; refine (HGN.out _ _ _ _ _ H9.out).mono ?_; rintro e w11 ⟨rfl, rfl⟩))
  go_ret
  exact ⟨rfl, HB10.out⟩
end Go.Proofs.Yteeomidlnijfbaa

/- A disk with a segment, and blocks that are ours. -/
namespace Go.Proofs.Yteeomidlnijfbaa
open Go.RowKit
set_option linter.unusedSimpArgs false
set_option linter.unusedVariables false

/-- A disk and a segment of it, all of it new behind w0; the blocks G are ours, apart from the two. -/
def HeldG (w0 w : World) (gd gq : Nat) (S : DS) (Q : QS) (G : Nat → Prop) : Prop :=
  ∃ F : Nat → Prop, DskAt F w gd S ∧ SBox w gq gd Q ∧ Below w0.heap.size w0 w ∧ (w0.heap.size ≤ gq ∧ ¬ F gq ∧ ¬ G gq) ∧ (∀ k, F k → w0.heap.size ≤ k ∧ ¬ G k) ∧ ∀ k, G k → w0.heap.size ≤ k ∧ k < w.heap.size
/-- Ours are as they were. -/
def Kept (G : Nat → Prop) (w w' : World) : Prop := (∀ k, G k → w'.heap[k]? = w.heap[k]?) ∧ w.heap.size ≤ w'.heap.size
section
variable {w0 w w' : World} {gd gq : Nat} {S S' : DS} {Q Q' : QS} {G G' : Nat → Prop}
theorem HeldG.of {Φ : World → Prop} (h : HeldS w0 w gd gq S Q Φ) : HeldG w0 w gd gq S Q fun _ => False := by
  obtain ⟨F, Z, h1, h2, h3, h4, h5, h6, h7⟩ := h
  exact ⟨F, h1, h2, h3, ⟨h4.1, h4.2.1, id⟩, fun k hk => ⟨(h5 k hk).1, id⟩, fun _ h => h.elim⟩
theorem HeldG.box (h : HeldG w0 w gd gq S Q G) : SBox w gq gd Q := by
  obtain ⟨F, h1, h2, h3, h4, h5, h6⟩ := h
  exact h2
theorem HeldG.bel (h : HeldG w0 w gd gq S Q G) : Below w0.heap.size w0 w := by
  obtain ⟨F, h1, h2, h3, h4, h5, h6⟩ := h
  exact h3
/-- Only blocks of ours have turned, and some are new: they are ours, if we like. -/
theorem HeldG.ours (h : HeldG w0 w gd gq S Q G) (ho : Only G w w') (hG : ∀ k, G' k → G k ∨ (w.heap.size ≤ k ∧ k < w'.heap.size)) : HeldG w0 w' gd gq S Q G' := by
  obtain ⟨F, h1, h2, h3, h4, h5, h6⟩ := h
  have hl := h1.lt
  have hlq := h2.lt
  have h0 := h3.size
  have hs := ho.size
  refine ⟨F, h1.keep (fun k hk => ho.block k (hl k hk) (h5 k hk).2) hs, h2.of_block (ho.block gq hlq h4.2.2), bbt' h3 ho fun k hk => (h6 k hk).1, ⟨h4.1, h4.2.1, fun e => ?_⟩, fun k hk => ⟨(h5 k hk).1, fun e => ?_⟩, fun k hk => ?_⟩
  · rcases hG _ e with e' | e'
    · exact h4.2.2 e'
    · omega
  · rcases hG _ e with e' | e'
    · exact (h5 k hk).2 e'
    · have := hl k hk
      omega
  · rcases hG k hk with e | e
    · have := h6 k e
      omega
    · omega
theorem HeldG.below (h : HeldG w0 w gd gq S Q G) (hb : Below w.heap.size w w') : HeldG w0 w' gd gq S Q G := h.ours (.of_below hb) fun k hk => .inl hk
/-- Something is done to the disk and to the segment's block. -/
theorem HeldG.turn {F F' : Nat → Prop} (h1 : DskAt F w gd S) (h2 : SBox w gq gd Q) (h3 : Below w0.heap.size w0 w) (h4 : w0.heap.size ≤ gq ∧ ¬ F gq ∧ ¬ G gq) (h5 : ∀ k, F k → w0.heap.size ≤ k ∧ ¬ G k) (h6 : ∀ k, G k → w0.heap.size ≤ k ∧ k < w.heap.size)
    (g1 : DskAt F' w' gd S') (g2 : ∀ k, F' k → F k ∨ w.heap.size ≤ k) (hq : SBox w' gq gd Q') (ho : Only (fun k => F k ∨ k = gq) w w') : HeldG w0 w' gd gq S' Q' G ∧ Kept G w w' := by
  have hlq := h2.lt
  have h0 := h3.size
  have hs := ho.size
  refine ⟨⟨F', g1, hq, bbt' h3 ho (by rintro k (e | e); exact (h5 k e).1; exact e ▸ h4.1), ⟨h4.1, fun e => ?_, h4.2.2⟩, fun k hk => ?_, fun k hk => by have := h6 k hk; omega⟩, fun k hk => ho.block k (h6 k hk).2 ?_, hs⟩
  · rcases g2 _ e with e' | e'
    · exact h4.2.1 e'
    · omega
  · rcases g2 k hk with e | e
    · exact h5 k e
    · exact ⟨by omega, fun e' => by have := h6 k e'; omega⟩
  · rintro (e | e)
    · exact (h5 k e).2 hk
    · exact h4.2.2 (e ▸ hk)
theorem HeldG.scan (h : HeldG w0 w gd gq S Q G) (hg : S.gone = false) :
    Calls Try.prog 14 #[.pointer (some ⟨gq, 0, none⟩)] w fun e w' => ∃ rs en v l, e = .returned (.tuple #[v, .int .i64 0]) ∧ Scn (rdS S) Q.behind Q.gen Q.first 0 rs en l ∧ RecsAt w' w.heap.size v rs ∧ HeldG w0 w' gd gq S { Q with ende := en, top := topOf (rdS S) Q.first (Q.behind - Q.first) } G ∧ Kept G w w' := by
  obtain ⟨F, h1, h2, h3, h4, h5, h6⟩ := h
  refine (scan_any h1 h2 hg).mono ?_
  rintro e w' ⟨rs, en, v, l, rfl, hs, hr, hq, ho⟩
  exact ⟨rs, en, v, l, rfl, hs, hr, HeldG.turn h1 h2 h3 h4 h5 h6 (h1.keep (fun k hk => ho.block k (h1.lt k hk) fun e => h4.2.1 (e ▸ hk)) ho.size) (fun k hk => .inl hk) hq (ho.mono fun k e => .inr e)⟩
end
end Go.Proofs.Yteeomidlnijfbaa

/- Lists of rows of bytes in blocks that are ours. -/
namespace Go.Proofs.Yteeomidlnijfbaa
open Go.RowKit
set_option linter.unusedSimpArgs false
set_option linter.unusedVariables false

section
variable {G G' : Nat → Prop} {w w' : World} {base : Nat} {v v' : Value} {rs : List Rec}
end
/-- What turns when a list of ours grows. -/
theorem only_grown {G : Nat → Prop} {w w' : World} {v : Value} (hgr : w.grownBy w' v.ownBlock) (h2 : ∀ k, v.ownBlock = some k → G k) : Only G w w' := (Only.refl (F := G) (w := w)).grown hgr fun k e => .inl (h2 k e)
end Go.Proofs.Yteeomidlnijfbaa
