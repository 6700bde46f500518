/- Contracts of the document: Solve. -/
import Derived.Test.YtebdmidghidaeaaGreatPYy
namespace Go.Proofs.YtebdmidghidaeaaGreat
open Go.RowKit
attribute [local go_sem ↓] Go.wp_at_zero Go.wp_at_succ
set_option linter.unusedVariables false
set_option linter.unusedSimpArgs false

/-- Whether a row was taken. -/
def takenB (u : Nat → Nat) : Nat → Nat → Bool
  | 0, _ => false
  | c + 1, j => if takenB u c j = true then true else decide (u c = j)
theorem takenB_iff (u : Nat → Nat) : ∀ c j, takenB u c j = true ↔ ∃ k, k < c ∧ u k = j
  | 0, j => ⟨fun h => (by cases h), fun ⟨k, h, _⟩ => absurd h (by omega)⟩
  | c + 1, j => by
    unfold takenB
    by_cases h : takenB u c j = true
    · rw [if_pos h]
      obtain ⟨k, hk, e⟩ := (takenB_iff u c j).1 h
      exact ⟨fun _ => ⟨k, by omega, e⟩, fun _ => rfl⟩
    · rw [if_neg h, decide_eq_true_eq]
      constructor
      · intro e; exact ⟨c, by omega, e⟩
      · rintro ⟨k, hk, e⟩
        by_cases hkc : k = c
        · subst hkc; exact e
        · exact absurd ((takenB_iff u c j).2 ⟨k, by omega, e⟩) h
theorem takenB_congr {u u' : Nat → Nat} : ∀ c j, (∀ k, k < c → u k = u' k) → takenB u c j = takenB u' c j
  | 0, _, _ => rfl
  | c + 1, j, h => by
    unfold takenB
    rw [takenB_congr c j (fun k hk => h k (by omega)), h c (by omega)]
theorem takenB_step (u : Nat → Nat) (c r j : Nat) : takenB (updR u c r) (c + 1) j = if j = r then true else takenB u c j := by
  show (if takenB (updR u c r) c j = true then true else decide (updR u c r c = j)) = _
  rw [takenB_congr (u' := u) c j (fun k hk => updR_ne _ _ (by omega)), updR_at]
  by_cases h : j = r
  · subst h; rw [if_pos rfl]; split <;> simp
  · rw [if_neg h]
    by_cases h2 : takenB u c j = true
    · rw [if_pos h2, h2]
    · rw [if_neg h2, decide_eq_false (fun e => h e.symm)]
      cases hh : takenB u c j
      · rfl
      · exact absurd hh h2
/-- What the search for a row carries: rows from q on. -/
def FindR (W : Nat → Nat → Rat) (u : Nat → Nat) (c m q : Nat) (r : Int) : Prop :=
  (r = -1 ∧ ∀ j, q ≤ j → j < m → takenB u c j = true ∨ W j c = 0) ∨ ∃ rn : Nat, r = rn ∧ q ≤ rn ∧ rn < m ∧ takenB u c rn = false ∧ W rn c ≠ 0
theorem FindR.start {W : Nat → Nat → Rat} {u : Nat → Nat} {c m : Nat} : FindR W u c m m (-1) := .inl ⟨rfl, fun j h1 h2 => absurd h1 (by omega)⟩
theorem FindR.skip {W : Nat → Nat → Rat} {u : Nat → Nat} {c m q : Nat} {r : Int} (h : FindR W u c m (q + 1) r) (h' : takenB u c q = true ∨ W q c = 0) : FindR W u c m q r := by
  rcases h with ⟨rfl, h⟩ | ⟨rn, rfl, h1, h2⟩
  · exact .inl ⟨rfl, fun j h1 h2 => by
      by_cases e : j = q
      · subst e; exact h'
      · exact h j (by omega) h2⟩
  · exact .inr ⟨rn, rfl, by omega, h2⟩
theorem FindR.take {W : Nat → Nat → Rat} {u : Nat → Nat} {c m q : Nat} (hq : q < m) (h1 : takenB u c q = false) (h2 : W q c ≠ 0) : FindR W u c m q (q : Int) := .inr ⟨q, rfl, Nat.le_refl _, hq, h1, h2⟩
theorem OwnV.congr {w : World} {base m : Nat} {t : TypeId} {v : Value} {r r' : Nat → Value} (h : OwnV w base t v m r) (he : ∀ i, i < m → r i = r' i) : OwnV w base t v m r' := by
  unfold OwnV at *
  rw [← List.map_congr_left (fun i hi => he i (by simpa using hi))]
  exact h
/-- A row is taken for a column. -/
theorem rv_store {p : Bool} {K m r c b gu gt : Nat} {L : Nat → Nat} {W : Nat → Nat → Rat} {u : Nat → Nat} {wr : World} {v : Value} (hT : TabQ p K wr v m L W)
    (hU : OwnV wr b 3 (.slice (some ⟨gu, 0, none⟩) m m) m (fun j => .int .i64 (if j < c then ((u j : Nat) : Int) else 0))) (hK : OwnV wr b 4 (.slice (some ⟨gt, 0, none⟩) m m) m (fun j => .bool (takenB u c j))) (hr : r < m) (hc : c < m) :
    OwnV (wr.setCell ⟨gt, r, none⟩ (.bool true)) b 3 (.slice (some ⟨gu, 0, none⟩) m m) m (fun j => .int .i64 (if j < c then ((u j : Nat) : Int) else 0)) ∧
    ∀ W2, W2 = (wr.setCell ⟨gt, r, none⟩ (.bool true)).setCell ⟨gu, c, none⟩ (.int .i64 (r : Nat)) → TabQ p K W2 v m L W ∧
      OwnV W2 b 3 (.slice (some ⟨gu, 0, none⟩) m m) m (fun j => .int .i64 (if j < c + 1 then ((updR u c r j : Nat) : Int) else 0)) ∧
      OwnV W2 b 4 (.slice (some ⟨gt, 0, none⟩) m m) m (fun j => .bool (takenB (updR u c r) (c + 1) j)) ∧ Below b wr W2 := by
  obtain ⟨k1, k2⟩ := OwnV.set1 hK hr (u := .bool true) nu rfl
  have hne : 3 ≠ 4 := by decide
  have u1 := OwnN.fz hU k2 hne
  refine ⟨u1, fun W2 hW2 => ?_⟩
  obtain ⟨u2, u3⟩ := OwnV.set1 (w := wr.setCell ⟨gt, r, none⟩ (.bool true)) u1 hc (u := .int .i64 (r : Nat)) nu rfl
  have t1 := hT.setNS (OwnV.noSl hK (fun i _ A k c e => by cases e)) r (.bool true) k2.keep
  have t2 := t1.setNS (OwnV.noSl (w := wr.setCell ⟨gt, r, none⟩ (.bool true)) u1 (fun i _ A k c e => by cases e)) c (.int .i64 (r : Nat)) u3.keep
  have kk := OwnN.fz k1 u3 hne.symm
  rw [← hW2] at t2 u2 kk u3
  refine ⟨t2, OwnV.congr u2 fun j hj => ?_, OwnV.congr kk fun j hj => ?_, k2.below.trans u3.below⟩
  · by_cases e : j = c
    · subst e; rw [updR_at, if_pos (by omega), updR_at]
    · rw [updR_ne _ _ e, updR_ne _ _ e]
      by_cases h : j < c
      · rw [if_pos h, if_pos (by omega)]
      · rw [if_neg h, if_neg (by omega)]
  · rw [takenB_step]
    by_cases e : j = r
    · subst e; rw [updR_at, if_pos rfl]
    · rw [updR_ne _ _ e, if_neg e]
/-- What the loop over the columns carries. -/
def RvI (w wr : World) (gu gt k m : Nat) (F : Nat → Nat → Rat) (h : Nat → Rat) (c : Nat) (v : Value) : Prop :=
  ∃ W p u, TabQ p (szF k c) wr v m (fun _ => m + 1) W ∧ (0 < c → p = true) ∧ OwnV wr w.heap.size 3 (.slice (some ⟨gu, 0, none⟩) m m) m (fun j => .int .i64 (if j < c then ((u j : Nat) : Int) else 0)) ∧
    OwnV wr w.heap.size 4 (.slice (some ⟨gt, 0, none⟩) m m) m (fun j => .bool (takenB u c j)) ∧ Un W m c u ∧ (∀ x, SolF W m x ↔ Sol F h m x) ∧ Below w.heap.size w wr

set_option maxRecDepth 100000 in
set_option maxHeartbeats 1000000 in
theorem rsolve_a {p p' : Bool} {k m mb : Nat} {Ln : Nat → Nat} {w : World} {vt vb : Value} {F : Nat → Nat → Rat} {h : Nat → Rat} (hT : TabQ p k w vt m Ln F) (hB : RowQ p' k w vb mb h) (hm : m ≠ mb) :
    Calls Tryz.prog 25 #[vt, vb] w fun e w' => SolvePost w w' e (szF k m) m mb Ln F h := by
  obtain ⟨A, ca, rfl, _, hn1⟩ := hT.len
  obtain ⟨B, cb, rfl, _, hn2⟩ := hB.len
  have hne : ¬ ((mb : Int) = (m : Int)) := by omega
  clear hT hB
  go_enter Tryz.func25, Tryz.ntmps25
  go_wp2
  go_ret2
  exact solveEnd (Below.refl _ _) fun h => hm h.1

set_option maxRecDepth 100000 in
set_option maxHeartbeats 1000000 in
theorem rsolve_b {k m : Nat} {Ln : Nat → Nat} {w : World} {vt vb : Value} {F : Nat → Nat → Rat} {h : Nat → Rat} (hT : TabQ false k w vt m Ln F) (hB : RowQ false k w vb m h) (hS : ¬ ∀ i, i < m → Ln i = m) :
    Calls Tryz.prog 25 #[vt, vb] w fun e w' => SolvePost w w' e (szF k m) m m Ln F h := by
  obtain ⟨A, ca, rfl, _, hm⟩ := hT.len
  obtain ⟨B, cb, rfl, _, _⟩ := hB.len
  have HT := Lib.hid hT
  have HB := Lib.hid hB
  have HS := Lib.hid hS
  clear hT hB hS
  go_enter Tryz.func25, Tryz.ntmps25
  go_wp2_with fail
  refine Calls.mono (rrect HT.out) ?_
  rintro e w2 ⟨⟨b, rfl, hb⟩, rfl⟩
  obtain rfl : b = false := by
    cases b
    · rfl
    · exact absurd (fun i hi => by have := hb.1 rfl i hi; omega) HS.out
  clear hb
  go_wp2
  go_ret2
  exact solveEnd (Below.refl _ _) fun h => HS.out h.2.1

set_option maxRecDepth 100000 in
set_option maxHeartbeats 16000000 in
theorem rsolve_c {k m : Nat} {Ln : Nat → Nat} {w : World} {vt vb : Value} {F : Nat → Nat → Rat} {h : Nat → Rat} (hT : TabQ false k w vt m Ln F) (hB : RowQ false k w vb m h) (hS : ∀ i, i < m → Ln i = m) (h1 : 1 ≤ k) (hsz : szF k m ≤ 4001) (hm1 : m ≤ 1000) :
    Calls Tryz.prog 25 #[vt, vb] w fun e w' => SolvePost w w' e (szF k m) m m Ln F h := by
  obtain ⟨A, ca, rfl, _, hm⟩ := hT.len
  obtain ⟨B, cb, rfl, _, _⟩ := hB.len
  have HT := Lib.hid hT
  have HB := Lib.hid hB
  have HS := Lib.hid hS
  clear hT hB hS
  go_enter Tryz.func25, Tryz.ntmps25
  go_wp2_with fail
  refine Calls.mono (rrect HT.out) ?_
  rintro e w2 ⟨⟨b, rfl, hb⟩, hw⟩
  have hw' := hw.symm
  subst hw'
  clear hw
  obtain rfl : b = true := hb.2 (fun i hi => by rw [HS.out i hi])
  clear hb
  have HT2 := Lib.hid (HT.out.congr (L' := fun _ => m) HS.out (fun _ _ _ _ => rfl))
  clear HT
  go_wp2
  go_loopw [7, 8] (fun v7 v8 wr => ∃ (i : Nat) (rr : Nat → Value), v8 = .int .i64 (i : Nat) ∧ i ≤ m ∧ OwnT wr w.heap.size v7 i rr ∧ (∀ j, j < i → RowT false k wr (rr j) (m + 1) (appR (F j) m (fun _ => h j))) ∧ Below w.heap.size w wr) (fun _ v8 _ => m - (intOf v8).toNat)
  case atStart => exact ⟨0, fun _ => .slice none 0 0, rfl, Nat.zero_le _, OwnT.nil, fun j hj => absurd hj (by omega), Below.refl _ _⟩
  case round =>
    obtain ⟨i, rr, rfl, hi, g1, g2, g3⟩ := hrel
    have HO := Lib.hid g1
    have HX := Lib.hid g2
    have HW := Lib.hid g3
    clear g1 g2 g3
    by_cases hlt : i < m
    · have hi0 : (0 : Int) ≤ (i : Int) := by omega
      have hik : (i : Int) < (m : Int) := by omega
      obtain ⟨td, ct', R, cR, e1, _, htb, hcell, _, _, hR⟩ := HT2.out.at_ hlt
      simp only [Value.slice.injEq] at e1
      obtain ⟨rfl, _, rfl⟩ := e1
      obtain ⟨bd, c1', ⟨b6, A6, n6, c6, d6, B6, m6, k6⟩, e1, _, _, hatb, hEb⟩ := HB.out.at_ hlt
      simp only [Value.slice.injEq] at e1
      obtain ⟨rfl, _, rfl⟩ := e1
      obtain ⟨X, hX, hA, hE⟩ := hR.rows_
      have HR := Lib.hid (hX.below HW.out)
      have HE := Lib.hid (fun l (hl : l < m) => (hE l hl).below HW.out)
      have HEb := Lib.hid (hEb.below HW.out)
      have hw := HW.out.size
      have htb2 : (td.add i).block < w.heap.size := by rw [add_block]; exact htb
      have hcw := Lib.hid hcell
      have HATB := Lib.hid hatb
      have hcell2 := (HW.out.cell htb2).trans hcell
      obtain ⟨x0, x1, x2, x3, x4⟩ := hatb.below HW.out
      have htb3 : (td.add i).block < wr.heap.size := by omega
      have tok0 : True := trivial
      have tok1 : True := trivial
      have tok2 : True := trivial
      clear hR hX hE hEb hatb hcell
      go_wp2
      go_region_held3 (fun w' => w'.cell? (td.add i) = some (.slice R m cR) ∧ w'.cell? (bd.add (i * 4)) = some (.bool b6) ∧ w'.cell? ⟨(bd.add (i * 4)).block, (bd.add (i * 4)).off + 1, none⟩ = some (.slice A6 n6 c6) ∧ w'.cell? ⟨(bd.add (i * 4)).block, (bd.add (i * 4)).off + 2, none⟩ = some (.bool d6) ∧ w'.cell? ⟨(bd.add (i * 4)).block, (bd.add (i * 4)).off + 3, none⟩ = some (.slice B6 m6 k6)) (first | (refine ⟨?_, ?_, ?_, ?_, ?_⟩ <;> (first | with_reducible assumption | ((with_reducible refine Eq.trans (cell_drew _ _) ?_); with_reducible assumption) | go_keep)) | go_keep)
        (first
          | (have _t := tok0; refine step_append_rats2 rfl rfl (.tmp 34) (.tmp 38) rfl (base := wr.heap.size) (n := 0) (m := m) (c := cR) (X := X) (Y := X) rfl (OwnR.drew_ (ownR_empty wr X)) rfl (HR.out.below ((below_new wr (.cells #[] 27)).drew)) hA (by omega) (by simp) ?_; intro v6 w6 ho hf hg; clear _t tok0; have HB6 := Lib.hid (show Below wr.heap.size wr w6 from ((below_new wr (.cells #[] 27)).drew).trans hf.below); have hcell6 := (HB6.out.cell htb3).trans hcell2; have x16 := (HB6.out.cell (p := (bd.add (i * 4))) x0).trans x1; have x26 := (HB6.out.cell (p := ⟨(bd.add (i * 4)).block, (bd.add (i * 4)).off + 1, none⟩) x0).trans x2; have x36 := (HB6.out.cell (p := ⟨(bd.add (i * 4)).block, (bd.add (i * 4)).off + 2, none⟩) x0).trans x3; have x46 := (HB6.out.cell (p := ⟨(bd.add (i * 4)).block, (bd.add (i * 4)).off + 3, none⟩) x0).trans x4; have HO6 := Lib.hid (show OwnR w6 wr.heap.size v6 m X from ownR_app0 ho); clear ho hf hg hcell2 x1 x2 x3 x4)
          | (have _t := tok0; refine step_append_rats2 rfl rfl (.tmp 34) (.tmp 38) rfl (base := wr.heap.size) (n := 0) (m := m) (c := cR) (X := X) (Y := X) rfl (OwnR.drew_ ((ownR_empty wr X).alloc_ _)) rfl (HR.out.below (((below_new wr (.cells #[] 27)).trans ((below_new (wr.alloc (.cells #[] 27)) (.cells #[.bool b6, .slice A6 n6 c6, .bool d6, .slice B6 m6 k6] 27)).mono (by simp))).drew)) hA (by omega) (by simp <;> omega) ?_; intro v6 w6 ho hf hg; clear _t tok0; have HB6 := Lib.hid (show Below wr.heap.size wr w6 from (((below_new wr (.cells #[] 27)).trans ((below_new (wr.alloc (.cells #[] 27)) (.cells #[.bool b6, .slice A6 n6 c6, .bool d6, .slice B6 m6 k6] 27)).mono (by simp))).drew).trans hf.below); have hcell6 := (HB6.out.cell htb3).trans hcell2; have x16 := (HB6.out.cell (p := (bd.add (i * 4))) x0).trans x1; have x26 := (HB6.out.cell (p := ⟨(bd.add (i * 4)).block, (bd.add (i * 4)).off + 1, none⟩) x0).trans x2; have x36 := (HB6.out.cell (p := ⟨(bd.add (i * 4)).block, (bd.add (i * 4)).off + 2, none⟩) x0).trans x3; have x46 := (HB6.out.cell (p := ⟨(bd.add (i * 4)).block, (bd.add (i * 4)).off + 3, none⟩) x0).trans x4; have HO6 := Lib.hid (show OwnR w6 wr.heap.size v6 m X from ownR_app0 ho); have HY6 := Lib.hid (RowAt.grown (show RowAt (((wr.alloc (.cells #[] 27)).alloc (.cells #[.bool b6, .slice A6 n6 c6, .bool d6, .slice B6 m6 k6] 27)).drew) (some ⟨wr.heap.size + 1, 0, none⟩) 1 (fun _ => ⟨b6, A6, n6, c6, d6, B6, m6, k6⟩) from rowAt_one (wr.alloc (.cells #[] 27)) (wr.heap.size + 1) (by simp) ⟨b6, A6, n6, c6, d6, B6, m6, k6⟩) hg (fun e => Nat.succ_ne_self _ (Option.some.inj e))); clear ho hf hg hcell2 x1 x2 x3 x4)
          | (have _t := tok1; refine step_append_rats2 rfl rfl (.tmp 39) (.tmp 44) rfl (base := wr.heap.size) (n := m) (m := 1) (c := 1) (X := X) (Y := fun _ => ⟨b6, A6, n6, c6, d6, B6, m6, k6⟩) rfl (OwnR.alloc_ HO6.out _) rfl (rowAt_one w6 _ rfl ⟨b6, A6, n6, c6, d6, B6, m6, k6⟩) (fun e => by cases e) (by omega) (by have := HB6.out.size; simp; omega) ?_; intro vD wD ho hf hg; clear _t tok1; have HBD := Lib.hid (show Below wr.heap.size wr wD from (below_trans HB6.out (below_new w6 (.cells #[.bool b6, .slice A6 n6 c6, .bool d6, .slice B6 m6 k6] 27))).trans hf.below); have HOD := Lib.hid ho; have HKD := Lib.hid (show Kp wr wD from .of_below HBD.out); have hcellD := (HW.out.trans (HBD.out.mono hw)).cell htb2 |>.trans hcw.out; have x1D := ((HW.out.trans (HBD.out.mono hw)).cell (p := (bd.add (i * 4))) HATB.out.1).trans HATB.out.2.1; have x2D := ((HW.out.trans (HBD.out.mono hw)).cell (p := ⟨(bd.add (i * 4)).block, (bd.add (i * 4)).off + 1, none⟩) HATB.out.1).trans HATB.out.2.2.1; have x3D := ((HW.out.trans (HBD.out.mono hw)).cell (p := ⟨(bd.add (i * 4)).block, (bd.add (i * 4)).off + 2, none⟩) HATB.out.1).trans HATB.out.2.2.2.1; have x4D := ((HW.out.trans (HBD.out.mono hw)).cell (p := ⟨(bd.add (i * 4)).block, (bd.add (i * 4)).off + 3, none⟩) HATB.out.1).trans HATB.out.2.2.2.2; obtain ⟨gD, cD, rfl, _, _⟩ := OwnN.form HOD.out (by omega); clear ho hf hg HO6 hcell6 x16 x26 x36 x46)
          | (have _t := tok1; refine step_append_rats2 rfl rfl (.tmp 39) (.tmp 44) rfl (base := wr.heap.size) (n := m) (m := 1) (c := 1) (X := X) (Y := fun _ => ⟨b6, A6, n6, c6, d6, B6, m6, k6⟩) rfl (HO6.out) rfl (HY6.out) (fun e => by cases e) (by omega) (HB6.out.size) ?_; intro vD wD ho hf hg; clear _t tok1; have HBD := Lib.hid (show Below wr.heap.size wr wD from (HB6.out).trans hf.below); have HOD := Lib.hid ho; have HKD := Lib.hid (show Kp wr wD from .of_below HBD.out); have hcellD := (HW.out.trans (HBD.out.mono hw)).cell htb2 |>.trans hcw.out; have x1D := ((HW.out.trans (HBD.out.mono hw)).cell (p := (bd.add (i * 4))) HATB.out.1).trans HATB.out.2.1; have x2D := ((HW.out.trans (HBD.out.mono hw)).cell (p := ⟨(bd.add (i * 4)).block, (bd.add (i * 4)).off + 1, none⟩) HATB.out.1).trans HATB.out.2.2.1; have x3D := ((HW.out.trans (HBD.out.mono hw)).cell (p := ⟨(bd.add (i * 4)).block, (bd.add (i * 4)).off + 2, none⟩) HATB.out.1).trans HATB.out.2.2.2.1; have x4D := ((HW.out.trans (HBD.out.mono hw)).cell (p := ⟨(bd.add (i * 4)).block, (bd.add (i * 4)).off + 3, none⟩) HATB.out.1).trans HATB.out.2.2.2.2; obtain ⟨gD, cD, rfl, _, _⟩ := OwnN.form HOD.out (by omega); clear ho hf hg HO6 hcell6 x16 x26 x36 x46)
          | (have _t := tok2; refine step_append_rows rfl rfl (.tmp 33) (.tmp 46) rfl (base := w.heap.size) (n := i) (m := 1) (c := 1) (r := rr) (t := fun _ => .slice (some ⟨gD, 0, none⟩) (m + 1) cD) rfl ((HO.out.below HBD.out).alloc_ _) rfl (slice_row wD _ rfl _) (fun _ _ => ⟨_, _, _, rfl⟩) (fun e => by cases e) (by omega) (by have := HBD.out.size; simp; omega) ?_; intro vE wE ho hf; clear _t tok2; have HwD := Lib.hid (show Below w.heap.size w wD from HW.out.trans (HBD.out.mono hw)); have HwE := Lib.hid (show Below w.heap.size w wE from (below_trans HwD.out (below_new wD (.cells #[.slice (some ⟨gD, 0, none⟩) (m + 1) cD] 22))).trans hf.below); have hcellE := (HwE.out.cell htb2).trans hcw.out; have x1E := (HwE.out.cell (p := (bd.add (i * 4))) HATB.out.1).trans HATB.out.2.1; have x2E := (HwE.out.cell (p := ⟨(bd.add (i * 4)).block, (bd.add (i * 4)).off + 1, none⟩) HATB.out.1).trans HATB.out.2.2.1; have x3E := (HwE.out.cell (p := ⟨(bd.add (i * 4)).block, (bd.add (i * 4)).off + 2, none⟩) HATB.out.1).trans HATB.out.2.2.2.1; have x4E := (HwE.out.cell (p := ⟨(bd.add (i * 4)).block, (bd.add (i * 4)).off + 3, none⟩) HATB.out.1).trans HATB.out.2.2.2.2; have HV := Lib.hid (OwnR.rowT (p := false) (k := k) (f := appR (F i) m (fun _ => h i)) HOD.out (by omega) (fun l hl => Decidable.byCases (fun hh : l < m => (by rw [appR_lt _ _ _ hh, appR_lt _ _ _ hh]; exact (HE.out l hh).kp HKD.out)) (fun hh : ¬ l < m => (by obtain ⟨q, rfl⟩ : ∃ q, l = m + q := ⟨l - m, (by omega)⟩; rw [appR_ge, appR_ge]; exact HEb.out.kp HKD.out)))); have HINV : Hid (OwnT wE w.heap.size vE (i + 1) (appR rr i (fun _ => .slice (some ⟨gD, 0, none⟩) (m + 1) cD)) ∧ (∀ j, j < i + 1 → RowT false k wE (appR rr i (fun _ => .slice (some ⟨gD, 0, none⟩) (m + 1) cD) j) (m + 1) (appR (F j) m (fun _ => h j))) ∧ Below w.heap.size w wE) := ⟨ho, fun j hj => Decidable.byCases (fun hh : j < i => (by rw [appR_lt _ _ _ hh]; exact (((HX.out j hh).below HBD.out).alloc_ _).fz hf)) (fun hh : ¬ j < i => (by obtain rfl : j = i := (by omega); have e0 := appR_ge rr j (fun _ => (.slice (some ⟨gD, 0, none⟩) (m + 1) cD : Value)) 0; rw [Nat.add_zero j] at e0; rw [e0]; exact (HV.out.alloc_ _).fz hf)), HwE.out⟩; clear ho hf HOD HBD HKD HwD HwE HV hcellD x1D x2D x3D x4D)
          | (have _t := tok0; refine step_append_rats2 rfl rfl (.tmp 34) (.tmp 38) rfl (base := wr.heap.size + 1) (n := 0) (m := m) (c := cR) (X := X) (Y := X) rfl (OwnR.drew_ (ownR_empty_at (wr.alloc (.cells #[.bool b6, .slice A6 n6 c6, .bool d6, .slice B6 m6 k6] 27)) (wr.heap.size + 1) (by simp) X)) rfl (HR.out.below (((below_new wr (.cells #[.bool b6, .slice A6 n6 c6, .bool d6, .slice B6 m6 k6] 27)).trans ((below_new (wr.alloc (.cells #[.bool b6, .slice A6 n6 c6, .bool d6, .slice B6 m6 k6] 27)) (.cells #[] 27)).mono (by simp))).drew)) hA (by omega) (by simp <;> omega) ?_; intro v6 w6 ho hf hg; clear _t tok0; have HB6 := Lib.hid (show Below wr.heap.size wr w6 from (((below_new wr (.cells #[.bool b6, .slice A6 n6 c6, .bool d6, .slice B6 m6 k6] 27)).trans ((below_new (wr.alloc (.cells #[.bool b6, .slice A6 n6 c6, .bool d6, .slice B6 m6 k6] 27)) (.cells #[] 27)).mono (by simp))).drew).trans (hf.below.mono (by omega))); have hcell6 := (HB6.out.cell htb3).trans hcell2; have x16 := (HB6.out.cell (p := (bd.add (i * 4))) x0).trans x1; have x26 := (HB6.out.cell (p := ⟨(bd.add (i * 4)).block, (bd.add (i * 4)).off + 1, none⟩) x0).trans x2; have x36 := (HB6.out.cell (p := ⟨(bd.add (i * 4)).block, (bd.add (i * 4)).off + 2, none⟩) x0).trans x3; have x46 := (HB6.out.cell (p := ⟨(bd.add (i * 4)).block, (bd.add (i * 4)).off + 3, none⟩) x0).trans x4; have HO6 := Lib.hid (show OwnR w6 wr.heap.size v6 m X from OwnN.lower (ownR_app0 ho) (by omega)); have HY6 := Lib.hid (RowAt.grown (show RowAt (((wr.alloc (.cells #[.bool b6, .slice A6 n6 c6, .bool d6, .slice B6 m6 k6] 27)).alloc (.cells #[] 27)).drew) (some ⟨wr.heap.size, 0, none⟩) 1 (fun _ => ⟨b6, A6, n6, c6, d6, B6, m6, k6⟩) from RowAt.below (w := wr.alloc (.cells #[.bool b6, .slice A6 n6 c6, .bool d6, .slice B6 m6 k6] 27)) (rowAt_one wr wr.heap.size rfl ⟨b6, A6, n6, c6, d6, B6, m6, k6⟩) ((below_new (wr.alloc (.cells #[.bool b6, .slice A6 n6 c6, .bool d6, .slice B6 m6 k6] 27)) (.cells #[] 27)).drew)) hg (fun e => Nat.succ_ne_self _ (Option.some.inj e).symm)); clear ho hf hg hcell2 x1 x2 x3 x4))
      all_goals
        go_wp2
        go_roundw
        case rel => exact ⟨i + 1, _, by go_num, by omega, HINV.out⟩
        case measure => simp [intOf]; omega
    · obtain rfl : m = i := by omega
      have HT0 := Lib.hid (HO.out.tabQ hm HX.out)
      clear HO HX
      have htok0 : True := trivial
      have htok1 : True := trivial
      go_wp2_with (at_make; (first
        | (have _t := htok0; refine wpList_make_vals rfl _ _ 65 rfl w.heap.size 3 (.int .i64 0) 8 Tryz.underlying65 int_info rfl nu _ _ _ _ m rfl rfl rfl rfl hm (by omega) HW.out.size ?_; intro w1 hown hbw hsw; clear _t htok0 hsw; have HT1 := Lib.hid (HT0.out.below hbw); have HW1 := Lib.hid (below_trans HW.out hbw); generalize wr.heap.size = gu at hown ⊢; have HU1 := Lib.hid hown; clear hown hbw HT0 HW)
        | (have _t := htok1; refine wpList_make_vals rfl _ _ 66 rfl w.heap.size 4 (.bool false) 1 Tryz.underlying66 bool_info rfl nu _ _ _ _ m rfl rfl rfl rfl hm (by omega) HW1.out.size ?_; intro w2 hown hbw hsw; clear _t htok1 hsw; have HT2' := Lib.hid (HT1.out.below hbw); have HW2 := Lib.hid (below_trans HW1.out hbw); have HU2 := Lib.hid (OwnV.below HU1.out hbw); generalize w1.heap.size = gt at hown ⊢; have HK2 := Lib.hid hown; clear hown hbw HT1 HW1 HU1)))
      have HI0 : Hid (RvI w w2 gu gt k m F h 0 u7) := ⟨_, false, fun _ => 0, HT2'.out, fun e => absurd e (by omega), OwnV.congr HU2.out (fun i _ => by rw [if_neg (by omega)]), OwnV.congr HK2.out (fun i _ => rfl), ⟨fun k hk => absurd hk (by omega), fun k l hk => absurd hk (by omega)⟩, fun x => solF_init F h m x, HW2.out⟩
      clear HT2' HU2 HK2 HW2 HT2 HB
      go_wp2
      go_loopw [7, 11] (fun v7 v11 wr => ∃ (c : Nat), v11 = .int .i64 (c : Nat) ∧ c ≤ m ∧ RvI w wr gu gt k m F h c v7) (fun _ v11 _ => m - (intOf v11).toNat)
      case atStart => exact ⟨0, rfl, Nat.zero_le _, HI0.out⟩
      case round =>
        obtain ⟨c, rfl, hc, W, p, u, g1, g2, g3, g4, g5, g6, g7⟩ := hrel
        clear HI0
        obtain ⟨V, CV, rfl, _, _⟩ := g1.len
        have HT3 := Lib.hid g1
        have HP3 := Lib.hid g2
        have HU3 := Lib.hid g3
        have HK3 := Lib.hid g4
        have HN3 := Lib.hid g5
        have HS3 := Lib.hid g6
        have HB3 := Lib.hid g7
        clear g1 g2 g3 g4 g5 g6 g7
        obtain ⟨wo, rfl⟩ : ∃ x, x = wr := ⟨wr, rfl⟩
        by_cases hlt : c < m
        · have hc0 : (0 : Int) ≤ (c : Int) := by omega
          have hcm : (c : Int) < (m : Int) := by omega
          have hk1 : 1 ≤ szF k c := szF_pos h1 c
          have hk2 : szF k c ≤ 1000 := by have := Nat.le_trans (szF_mono k (show c + 1 ≤ m from hlt)) hsz; unfold szF at this; omega
          go_wp2
          go_loopw [12, 13] (fun v12 v13 wr => ∃ (q : Nat) (r z : Int), v12 = .int .i64 r ∧ v13 = .int .i64 z ∧ z = (q : Int) - 1 ∧ q ≤ m ∧ FindR W u c m q r ∧ Below wo.heap.size wo wr) (fun _ v13 _ => (intOf v13 + 1).toNat)
          case atStart => exact ⟨m, -1, (m : Int) - 1, rfl, by go_num, rfl, Nat.le_refl _, FindR.start, Below.refl _ _⟩
          case round =>
            obtain ⟨q, r, z, rfl, rfl, hz, hq, g1, g2⟩ := hrel
            have HF := Lib.hid g1
            have HBo := Lib.hid g2
            clear g1 g2
            by_cases h0 : q = 0
            · obtain rfl : z = -1 := by omega
              clear hz
              rcases HF.out with ⟨rfl, hF⟩ | ⟨rn, rfl, _, hrm, hF1, hF2⟩
              · have HZ := Lib.hid hF
                clear hF HF
                go_wp2
                go_ret2
                exact solveEnd (below_trans HB3.out HBo.out) fun hh => un_fail HN3.out hlt (fun j hj hn => by
                  rcases HZ.out j (by omega) hj with e | e
                  · obtain ⟨k', hk', e'⟩ := (takenB_iff u c j).1 e
                    exact absurd e' (hn k' hk')
                  · exact e) HS3.out hh.2.2
              · have hr0 : (0 : Int) ≤ (rn : Int) := by omega
                have hr1 : (rn : Int) < (m : Int) := by omega
                have hr2 : ¬ (rn : Int) < 0 := by omega
                have HF1 := Lib.hid hF1
                have HF2 := Lib.hid hF2
                have HT4 := Lib.hid (HT3.out.below HBo.out)
                have HU4 := Lib.hid (OwnV.below HU3.out HBo.out)
                have HK4 := Lib.hid (OwnV.below HK3.out HBo.out)
                have HB4 := Lib.hid (below_trans HB3.out HBo.out)
                clear hF1 hF2 HF HT3 HU3 HK3
                obtain ⟨hU5, hst⟩ := rv_store HT4.out HU4.out HK4.out hrm hlt
                have HST := Lib.hid hst
                have s0 := HK4.out.at_ hrm
                have s1 := OwnN.frozenAt HK4.out rn
                have s2 := OwnV.at_ hU5 hlt
                have s3 := OwnN.frozenAt hU5 c
                clear hU5 hst
                go_wp2_with fail
                obtain ⟨W5, hW⟩ : ∃ x, x = (wr.setCell ⟨gt, rn, none⟩ (.bool true)).setCell ⟨gu, c, none⟩ (.int .i64 (rn : Nat)) := ⟨_, rfl⟩
                rw [← hW]
                obtain ⟨b1, b2, b3, b4⟩ := HST.out W5 hW
                have HU6 := Lib.hid b2
                have HK6 := Lib.hid b3
                have HB6 := Lib.hid (HB4.out.trans b4)
                clear hW HST s0 s1 s2 s3 HT4 HU4 HK4 HB4 b2 b3 b4
                refine Calls.mono (rpivoted (K := szF k (c + 1)) b1 hrm (show c < m + 1 by omega) (fun _ _ => rfl) HF2.out hk2 hk1 (by show _ ≤ 4 * szF k c + 1; omega)) ?_
                rintro e w6 ⟨v, rfl, a1, a2⟩
                have HINV : Hid (RvI w w6 gu gt k m F h (c + 1) v) := ⟨pivF W rn c, true, updR u c rn, a1, fun _ => rfl, OwnV.below HU6.out a2, OwnV.below HK6.out a2, un_step HN3.out hrm (fun k' hk' e => by
                  have := (takenB_iff u c rn).2 ⟨k', hk', e⟩
                  rw [HF1.out] at this
                  cases this) HF2.out, fun x => (solF_step hrm HF2.out).trans (HS3.out x), below_trans HB6.out a2⟩
                clear a1 a2 b1 HU6 HK6 HB6 HS3 HN3
                go_wp2
                go_roundw
                case rel => exact ⟨c + 1, by go_num, by omega, HINV.out⟩
                case measure => (simp [intOf] <;> omega)
            · obtain ⟨q', rfl⟩ : ∃ q', q = q' + 1 := ⟨q - 1, by omega⟩
              obtain rfl : z = (q' : Int) := by omega
              have hqm : q' < m := by omega
              have hq0 : (0 : Int) ≤ (q' : Int) := by omega
              have hq1 : (q' : Int) < (m : Int) := by omega
              clear hz h0
              obtain ⟨td, ct', R, cR, e1, _, htb, hcell, _, _, hR⟩ := (HT3.out.below HBo.out).at_ hqm
              simp only [Value.slice.injEq] at e1
              obtain ⟨rfl, _, rfl⟩ := e1
              obtain ⟨bd, c1', ⟨b7, A7, n7, c7, d7, B7, m7, k7⟩, e1, _, _, ⟨x0, x1, x2, x3, x4⟩, hE⟩ := hR.at_ (show c < m + 1 by omega)
              simp only [Value.slice.injEq] at e1
              obtain ⟨rfl, _, rfl⟩ := e1
              have s0 := (OwnV.below HK3.out HBo.out).at_ hqm
              have HE := Lib.hid hE
              clear hE hR
              cases htk : takenB u c q'
              · rw [htk] at s0
                have HTK := Lib.hid htk
                clear htk
                have hm1' : (c : Int) < ((m + 1 : Nat) : Int) := by omega
                by_cases hz : W q' c = 0
                · have HZ := Lib.hid hz
                  clear hz
                  go_wp2_with fail
                  refine Calls.mono (risz_is (decide_eq_true HZ.out) HE.out.2 (by omega) hk1) ?_
                  rintro e w2 ⟨rfl, hb⟩
                  have HBo2 := Lib.hid (below_trans HBo.out hb)
                  clear hb
                  go_wp2
                  go_roundw
                  case rel => exact ⟨q', r, (q' : Int) - 1, rfl, by go_num, rfl, by omega, HF.out.skip (.inr HZ.out), HBo2.out⟩
                  case measure => (simp [intOf] <;> omega)
                · have HZ := Lib.hid hz
                  clear hz
                  go_wp2_with fail
                  refine Calls.mono (risz_is (decide_eq_false HZ.out) HE.out.2 (by omega) hk1) ?_
                  rintro e w2 ⟨rfl, hb⟩
                  have HBo2 := Lib.hid (below_trans HBo.out hb)
                  clear hb
                  go_wp2
                  go_roundw
                  case rel => exact ⟨q', (q' : Int), (q' : Int) - 1, rfl, by go_num, rfl, by omega, FindR.take hqm HTK.out HZ.out, HBo2.out⟩
                  case measure => (simp [intOf] <;> omega)
              · rw [htk] at s0
                have HTK := Lib.hid htk
                clear htk
                go_wp2
                go_roundw
                case rel => exact ⟨q', r, (q' : Int) - 1, rfl, by go_num, rfl, by omega, HF.out.skip (.inl HTK.out), HBo.out⟩
                case measure => (simp [intOf] <;> omega)
        · obtain rfl : m = c := by omega
          go_wp2
          go_loopw [14, 15] (fun v14 v15 wr => ∃ (i : Nat) (X : Nat → RatD), v15 = .int .i64 (i : Nat) ∧ i ≤ m ∧ OwnR wr wo.heap.size v14 i X ∧ (∀ j, j < i → EQ p (szF k m) wr (X j).val (W (u j) m)) ∧ Below wo.heap.size wo wr) (fun _ v15 _ => m - (intOf v15).toNat)
          case atStart => exact ⟨0, fun _ => ratZ, rfl, Nat.zero_le _, OwnR.nil, fun j hj => absurd hj (by omega), Below.refl _ _⟩
          case round =>
            obtain ⟨i, X, rfl, hi, g1, g2, g3⟩ := hrel
            have HO := Lib.hid g1
            have HX := Lib.hid g2
            have HBo := Lib.hid g3
            clear g1 g2 g3
            by_cases hlt : i < m
            · have hi0 : (0 : Int) ≤ (i : Int) := by omega
              have hi1 : (i : Int) < (m : Int) := by omega
              have hum := (HN3.out.1 i hlt).1
              have hu0 : (0 : Int) ≤ ((u i : Nat) : Int) := by omega
              have hu1 : ((u i : Nat) : Int) < (m : Int) := by omega
              have s0 := (OwnV.below HU3.out HBo.out).at_ hlt
              rw [if_pos hlt] at s0
              obtain ⟨td, ct', R, cR, e1, _, htb, hcell, _, _, hR⟩ := (HT3.out.below HBo.out).at_ hum
              simp only [Value.slice.injEq] at e1
              obtain ⟨rfl, _, rfl⟩ := e1
              obtain ⟨bd, c1', ⟨b7, A7, n7, c7, d7, B7, m7, k7⟩, e1, _, _, ⟨x0, x1, x2, x3, x4⟩, hE⟩ := hR.at_ (show m < m + 1 by omega)
              simp only [Value.slice.injEq] at e1
              obtain ⟨rfl, _, rfl⟩ := e1
              have HE := Lib.hid hE
              clear hE hR
              have hm1' : (m : Int) < ((m + 1 : Nat) : Int) := by omega
              have hm0' : (0 : Int) ≤ (m : Int) := by omega
              go_wp2_with (at_builtin; refine wpList_append_rats rfl rfl (.tmp 101) (.tmp 112) rfl (base := wo.heap.size) (n := i) (m := 1) (c := 1) (X := X) (Y := fun _ => ⟨b7, A7, n7, c7, d7, B7, m7, k7⟩) rfl (OwnR.alloc_ HO.out _) rfl (rowAt_one wr _ rfl ⟨b7, A7, n7, c7, d7, B7, m7, k7⟩) (fun e => by cases e) (by omega) (by have := HBo.out.size; simp; omega) ?_; intro v8 w8 ho hf)
              have HINV : Hid (OwnR w8 wo.heap.size v8 (i + 1) (appR X i (fun _ => ⟨b7, A7, n7, c7, d7, B7, m7, k7⟩)) ∧ (∀ l, l < i + 1 → EQ p (szF k m) w8 (appR X i (fun _ => ⟨b7, A7, n7, c7, d7, B7, m7, k7⟩) l).val (W (u l) m)) ∧ Below wo.heap.size wo w8) := ⟨ho, fun l hl => by
                by_cases h : l < i
                · rw [appR_lt _ _ _ h]; exact ((HX.out l h).alloc_ _).kp hf.keep
                · obtain rfl : l = i := by omega
                  have := appR_ge X l (fun _ => (⟨b7, A7, n7, c7, d7, B7, m7, k7⟩ : RatD)) 0
                  rw [Nat.add_zero] at this
                  rw [this]
                  exact (HE.out.alloc_ _).kp hf.keep, (below_trans HBo.out (below_new _ _)).trans hf.below⟩
              clear ho hf HO HX HE HBo s0 hcell x0 x1 x2 x3 x4
              go_wp2
              go_roundw
              case rel => exact ⟨i + 1, _, by go_num, by omega, HINV.out⟩
              case measure => (simp [intOf] <;> omega)
            · obtain rfl : m = i := by omega
              have HV : Hid (RowT true (szF k m) wr u14 m (fun c => W (u c) m)) := by
                have hv := OwnR.rowT HO.out hm HX.out
                show RowT true _ _ _ _ _
                by_cases h0 : m = 0
                · subst h0; exact hv.any0
                · rw [HP3.out (by omega)] at hv; exact hv
              go_wp2
              go_ret2
              exact ⟨below_trans HB3.out HBo.out, .inl ⟨_, _, rfl, rfl, HS.out, un_end HN3.out HS3.out, HV.out⟩⟩

theorem rsolve {k m mb : Nat} {Ln : Nat → Nat} {w : World} {vt vb : Value} {F : Nat → Nat → Rat} {h : Nat → Rat} (hT : TabQ false k w vt m Ln F) (hB : RowQ false k w vb mb h) (h1 : 1 ≤ k) (hsz : szF k m ≤ 4001) (hm1 : m ≤ 1000) :
    Calls Tryz.prog 25 #[vt, vb] w fun e w' => SolvePost w w' e (szF k m) m mb Ln F h := by
  by_cases hm : m = mb
  · subst hm
    by_cases hS : ∀ i, i < m → Ln i = m
    · exact rsolve_c hT hB hS h1 hsz hm1
    · exact rsolve_b hT hB hS
  · exact rsolve_a hT hB hm
end Go.Proofs.YtebdmidghidaeaaGreat
