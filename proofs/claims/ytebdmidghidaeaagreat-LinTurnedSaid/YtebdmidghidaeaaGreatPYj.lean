/- Contracts of lin: Pivot. -/
import Derived.Test.YtebdmidghidaeaaGreatPYh
import Derived.Lib.SliceRun
namespace Go.Proofs.YtebdmidghidaeaaGreat
open Go.RowKit
attribute [local go_sem ↓] Go.wp_at_zero Go.wp_at_succ
set_option linter.unusedVariables false

/-- Whether there is a pivot. -/
def PivOk (m : Nat) (Ln : Nat → Nat) (F : Nat → Nat → Rat) (r c : Int) : Prop := ∃ rn cn : Nat, r = rn ∧ c = cn ∧ rn < m ∧ cn < Ln rn ∧ (∀ i, i < m → Ln i = Ln rn) ∧ F rn cn ≠ 0
/-- A pivot's table, or none. -/
def PivPost (w w' : World) (e : Ending) (K m : Nat) (Ln : Nat → Nat) (F : Nat → Nat → Rat) (r c : Int) : Prop :=
  Below w.heap.size w w' ∧ ((¬ PivOk m Ln F r c ∧ e = .returned (.tuple #[.slice none 0 0, .bool false])) ∨
    ∃ rn cn v, r = (rn : Nat) ∧ c = (cn : Nat) ∧ rn < m ∧ cn < Ln rn ∧ (∀ i, i < m → Ln i = Ln rn) ∧ F rn cn ≠ 0 ∧ e = .returned (.tuple #[v, .bool true]) ∧ TabQ true K w' v m (fun _ => Ln rn) (pivF F rn cn))

set_option maxRecDepth 100000 in
set_option maxHeartbeats 1000000 in
theorem lpivot_a {p : Bool} {k m : Nat} {Ln : Nat → Nat} {w : World} {vt : Value} {F : Nat → Nat → Rat} {r c : Int} (hT : TabQ p k w vt m Ln F) (hr : r < 0) :
    Calls Tryz.prog 20 #[vt, .int .i64 r, .int .i64 c] w fun e w' => e = .returned (.tuple #[.slice none 0 0, .bool false]) ∧ Below w.heap.size w w' := by
  obtain ⟨A, ct, rfl, _, hm⟩ := hT.len
  clear hT
  go_enter Tryz.func20, Tryz.ntmps20
  go_wp2
  go_ret2
  exact ⟨rfl, Below.refl _ _⟩

set_option maxRecDepth 100000 in
set_option maxHeartbeats 1000000 in
theorem lpivot_b {p : Bool} {k m : Nat} {Ln : Nat → Nat} {w : World} {vt : Value} {F : Nat → Nat → Rat} {r c : Int} (hT : TabQ p k w vt m Ln F) (hr : (m : Int) ≤ r) :
    Calls Tryz.prog 20 #[vt, .int .i64 r, .int .i64 c] w fun e w' => e = .returned (.tuple #[.slice none 0 0, .bool false]) ∧ Below w.heap.size w w' := by
  obtain ⟨A, ct, rfl, _, hm⟩ := hT.len
  clear hT
  have h0 : ¬ r < 0 := by omega
  go_enter Tryz.func20, Tryz.ntmps20
  go_wp2
  go_ret2
  exact ⟨rfl, Below.refl _ _⟩

set_option maxRecDepth 100000 in
set_option maxHeartbeats 1000000 in
theorem lpivot_c {p : Bool} {k m r : Nat} {Ln : Nat → Nat} {w : World} {vt : Value} {F : Nat → Nat → Rat} {c : Int} (hT : TabQ p k w vt m Ln F) (hr : r < m) (hc : c < 0) :
    Calls Tryz.prog 20 #[vt, .int .i64 (r : Nat), .int .i64 c] w fun e w' => e = .returned (.tuple #[.slice none 0 0, .bool false]) ∧ Below w.heap.size w w' := by
  obtain ⟨td, ct, R, cR, rfl, hm, htb, hcell, hn1, hn, hR⟩ := hT.at_ hr
  have hr0 : ¬ (r : Int) < 0 := by omega
  have hr1 : ¬ (m : Int) ≤ (r : Int) := by omega
  have hr2 : (r : Int) < (m : Int) := by omega
  have hr3 : (0 : Int) ≤ (r : Int) := by omega
  clear hT hR
  go_enter Tryz.func20, Tryz.ntmps20
  go_wp2
  go_ret2
  exact ⟨rfl, Below.refl _ _⟩

set_option maxRecDepth 100000 in
set_option maxHeartbeats 1000000 in
theorem lpivot_d {p : Bool} {k m r : Nat} {Ln : Nat → Nat} {w : World} {vt : Value} {F : Nat → Nat → Rat} {c : Int} (hT : TabQ p k w vt m Ln F) (hr : r < m) (hc : (Ln r : Int) ≤ c) :
    Calls Tryz.prog 20 #[vt, .int .i64 (r : Nat), .int .i64 c] w fun e w' => e = .returned (.tuple #[.slice none 0 0, .bool false]) ∧ Below w.heap.size w w' := by
  obtain ⟨td, ct, R, cR, rfl, hm, htb, hcell, hn1, hn, hR⟩ := hT.at_ hr
  have hr0 : ¬ (r : Int) < 0 := by omega
  have hr1 : ¬ (m : Int) ≤ (r : Int) := by omega
  have hr2 : (r : Int) < (m : Int) := by omega
  have hr3 : (0 : Int) ≤ (r : Int) := by omega
  have hc0 : ¬ c < 0 := by omega
  clear hT hR
  go_enter Tryz.func20, Tryz.ntmps20
  go_wp2
  go_ret2
  exact ⟨rfl, Below.refl _ _⟩

set_option maxRecDepth 100000 in
set_option maxHeartbeats 1000000 in
theorem lpivot_e {p : Bool} {k m r c : Nat} {Ln : Nat → Nat} {w : World} {vt : Value} {F : Nat → Nat → Rat} (hT : TabQ p k w vt m Ln F) (hr : r < m) (hc : c < Ln r) (hL : ¬ ∀ i, i < m → Ln i = Ln r) :
    Calls Tryz.prog 20 #[vt, .int .i64 (r : Nat), .int .i64 (c : Nat)] w fun e w' => e = .returned (.tuple #[.slice none 0 0, .bool false]) ∧ Below w.heap.size w w' := by
  obtain ⟨td, ct, R, cR, rfl, hm, htb, hcell, hn1, hn, hR⟩ := hT.at_ hr
  have hr0 : ¬ (r : Int) < 0 := by omega
  have hr1 : ¬ (m : Int) ≤ (r : Int) := by omega
  have hr2 : (r : Int) < (m : Int) := by omega
  have hr3 : (0 : Int) ≤ (r : Int) := by omega
  have hc0 : ¬ (c : Int) < 0 := by omega
  have hc1 : ¬ (Ln r : Int) ≤ (c : Int) := by omega
  have hc2 : (c : Int) < (Ln r : Int) := by omega
  have hc3 : (0 : Int) ≤ (c : Int) := by omega
  have HT := Lib.hid hT
  have HL := Lib.hid hL
  clear hT hR hL
  go_enter Tryz.func20, Tryz.ntmps20
  go_wp2_with fail
  refine Calls.mono (lrect HT.out) ?_
  rintro e w1 ⟨⟨b, rfl, hb⟩, rfl⟩
  obtain rfl : b = false := by
    cases b
    · rfl
    · exact absurd (fun i hi => by have := hb.1 rfl i hi; omega) HL.out
  clear hb
  go_wp2
  go_ret2
  exact ⟨rfl, Below.refl _ _⟩

set_option maxRecDepth 100000 in
set_option maxHeartbeats 1000000 in
theorem lpivot_f {p : Bool} {k m r c : Nat} {Ln : Nat → Nat} {w : World} {vt : Value} {F : Nat → Nat → Rat} (hT : TabQ p k w vt m Ln F) (hr : r < m) (hc : c < Ln r) (hL : ∀ i, i < m → Ln i = Ln r) (hF : F r c = 0) (hk : k ≤ 2000) :
    Calls Tryz.prog 20 #[vt, .int .i64 (r : Nat), .int .i64 (c : Nat)] w fun e w' => e = .returned (.tuple #[.slice none 0 0, .bool false]) ∧ Below w.heap.size w w' := by
  obtain ⟨td, ct, R, cR, rfl, hm, htb, hcell, hn1, hn, hR⟩ := hT.at_ hr
  have hr0 : ¬ (r : Int) < 0 := by omega
  have hr1 : ¬ (m : Int) ≤ (r : Int) := by omega
  have hr2 : (r : Int) < (m : Int) := by omega
  have hr3 : (0 : Int) ≤ (r : Int) := by omega
  have hc0 : ¬ (c : Int) < 0 := by omega
  have hc1 : ¬ (Ln r : Int) ≤ (c : Int) := by omega
  have hc2 : (c : Int) < (Ln r : Int) := by omega
  have hc3 : (0 : Int) ≤ (c : Int) := by omega
  obtain ⟨rd, cr, ⟨b8, A8, n8, c8, d8, B8, m8, k8⟩, e1, _, _, ⟨x0, x1, x2, x3, x4⟩, hE⟩ := hR.at_ hc
  simp only [Value.slice.injEq] at e1
  obtain ⟨rfl, _, rfl⟩ := e1
  have HT := Lib.hid hT
  have HL := Lib.hid hL
  have HE := Lib.hid hE.2
  have HF := Lib.hid hF
  have HZ := Lib.hid (decide_eq_true hF)
  clear hT hR hL hE hF
  go_enter Tryz.func20, Tryz.ntmps20
  go_wp2_with fail
  refine Calls.mono (lrect HT.out) ?_
  rintro e w1 ⟨⟨b, rfl, hb⟩, rfl⟩
  obtain rfl : b = true := hb.2 (fun i hi => by rw [HL.out i hi])
  clear hb
  go_wp2_with fail
  refine Calls.mono (lisz_is HZ.out HE.out (by omega)) ?_
  rintro e w2 ⟨rfl, hb⟩
  have HB := Lib.hid hb
  clear hb
  go_wp2
  go_ret2
  exact ⟨rfl, HB.out⟩

set_option maxRecDepth 100000 in
set_option maxHeartbeats 1000000 in
theorem lpivot_g {p : Bool} {k m r c : Nat} {Ln : Nat → Nat} {w : World} {vt : Value} {F : Nat → Nat → Rat} (hT : TabQ p k w vt m Ln F) (hr : r < m) (hc : c < Ln r) (hL : ∀ i, i < m → Ln i = Ln r) (hF : F r c ≠ 0) (hk : k ≤ 2000) (h1 : 1 ≤ k) {K : Nat} (hK : k + (k + k + k) + 1 ≤ K) :
    Calls Tryz.prog 20 #[vt, .int .i64 (r : Nat), .int .i64 (c : Nat)] w fun e w' => ∃ v rr, e = .returned (.tuple #[v, .bool true]) ∧ OwnT w' w.heap.size v m rr ∧ (∀ i, i < m → RowT true K w' (rr i) (Ln r) (pivF F r c i)) ∧ Below w.heap.size w w' := by
  obtain ⟨td, ct, R, cR, rfl, hm, htb, hcell, hn1, hn, hR⟩ := hT.at_ hr
  have hr0 : ¬ (r : Int) < 0 := by omega
  have hr1 : ¬ (m : Int) ≤ (r : Int) := by omega
  have hr2 : (r : Int) < (m : Int) := by omega
  have hr3 : (0 : Int) ≤ (r : Int) := by omega
  have hc0 : ¬ (c : Int) < 0 := by omega
  have hc1 : ¬ (Ln r : Int) ≤ (c : Int) := by omega
  have hc2 : (c : Int) < (Ln r : Int) := by omega
  have hc3 : (0 : Int) ≤ (c : Int) := by omega
  obtain ⟨rd, cr, ⟨b8, A8, n8, c8, d8, B8, m8, k8⟩, e1, _, _, ⟨x0, x1, x2, x3, x4⟩, hE⟩ := hR.at_ hc
  simp only [Value.slice.injEq] at e1
  obtain ⟨rfl, _, rfl⟩ := e1
  have HT := Lib.hid hT
  have HL := Lib.hid hL
  have HE := Lib.hid hE.2
  have HF := Lib.hid hF
  have HZ := Lib.hid (decide_eq_false hF)
  clear hT hR hL hE hF
  go_enter Tryz.func20, Tryz.ntmps20
  go_wp2_with fail
  refine Calls.mono (lrect HT.out) ?_
  rintro e w1 ⟨⟨b, rfl, hb⟩, rfl⟩
  obtain rfl : b = true := hb.2 (fun i hi => by rw [HL.out i hi])
  clear hb
  go_wp2_with fail
  refine Calls.mono (lisz_is HZ.out HE.out (by omega)) ?_
  rintro e w2 ⟨rfl, hb⟩
  have HB := Lib.hid hb
  have HT2 := Lib.hid ((HT.out.congr (L' := fun _ => Ln r) HL.out (fun _ _ _ _ => rfl)).below hb)
  clear hb
  go_wp2_with fail
  refine Calls.mono (lpivoted HT2.out hr hc HF.out hk h1 hK) ?_
  rintro e w3 ⟨v, rr, rfl, h1, h2, h3⟩
  have H1 := Lib.hid (OwnN.lower h1 HB.out.size)
  have H2 := Lib.hid h2
  have H3 := Lib.hid (below_trans HB.out h3)
  clear h1 h2 h3
  go_wp2
  go_ret2
  exact ⟨_, _, rfl, H1.out, H2.out, H3.out⟩

theorem lpivot {p : Bool} {k K m : Nat} {Ln : Nat → Nat} {w : World} {vt : Value} {F : Nat → Nat → Rat} {r c : Int} (hT : TabQ p k w vt m Ln F) (hk : k ≤ 2000) (h1 : 1 ≤ k) (hK : k + (k + k + k) + 1 ≤ K) :
    Calls Tryz.prog 20 #[vt, .int .i64 r, .int .i64 c] w fun e w' => PivPost w w' e K m Ln F r c := by
  have no : ¬ PivOk m Ln F r c → Calls Tryz.prog 20 #[vt, .int .i64 r, .int .i64 c] w (fun e w' => e = .returned (.tuple #[.slice none 0 0, .bool false]) ∧ Below w.heap.size w w') → Calls Tryz.prog 20 #[vt, .int .i64 r, .int .i64 c] w fun e w' => PivPost w w' e K m Ln F r c := fun hn h => by
    refine h.mono ?_
    rintro e w' ⟨rfl, hb⟩
    exact ⟨hb, .inl ⟨hn, rfl⟩⟩
  by_cases a : r < 0
  · exact no (fun ⟨rn, cn, e1, _⟩ => by omega) (lpivot_a hT a)
  · by_cases b : (m : Int) ≤ r
    · exact no (fun ⟨rn, cn, e1, _, h, _⟩ => by omega) (lpivot_b hT b)
    · obtain ⟨rn, rfl⟩ : ∃ rn : Nat, r = rn := ⟨r.toNat, by omega⟩
      have hr : rn < m := by omega
      by_cases d : c < 0
      · exact no (fun ⟨_, cn, _, e1, _⟩ => by omega) (lpivot_c hT hr d)
      · by_cases f : (Ln rn : Int) ≤ c
        · refine no (fun ⟨rn', cn, e0, e1, _, h, _⟩ => ?_) (lpivot_d hT hr f)
          obtain rfl : rn = rn' := by omega
          omega
        · obtain ⟨cn, rfl⟩ : ∃ cn : Nat, c = cn := ⟨c.toNat, by omega⟩
          have hc : cn < Ln rn := by omega
          by_cases hL : ∀ i, i < m → Ln i = Ln rn
          · by_cases hF : F rn cn = 0
            · refine no (fun ⟨rn', cn', e0, e1, _, _, _, h⟩ => ?_) (lpivot_f hT hr hc hL hF hk)
              obtain rfl : rn = rn' := by omega
              obtain rfl : cn = cn' := by omega
              exact h hF
            · refine (lpivot_g hT hr hc hL hF hk h1 hK).mono ?_
              rintro e w' ⟨v, rr, rfl, g1, g2, g3⟩
              exact ⟨g3, .inr ⟨rn, cn, v, rfl, rfl, hr, hc, hL, hF, rfl, g1.tabQ hT.len.choose_spec.choose_spec.2.2 g2⟩⟩
          · refine no (fun ⟨rn', cn', e0, e1, _, _, h, _⟩ => ?_) (lpivot_e hT hr hc hL)
            obtain rfl : rn = rn' := by omega
            exact hL h
end Go.Proofs.YtebdmidghidaeaaGreat

/- Contracts of lin: slices.Clone; what Solve makes of each row and number; rows of pairs. -/
namespace Go.Proofs.YtebdmidghidaeaaGreat
open Go.RowKit
attribute [local go_sem ↓] Go.wp_at_zero Go.wp_at_succ
set_option linter.unusedVariables false

theorem ownR_empty (w : World) (X : Nat → RatD) : OwnR (w.alloc (.cells #[] 27)) w.heap.size (.slice (some ⟨w.heap.size, 0, none⟩) 0 0) 0 X :=
  ⟨rfl, .inr ⟨w.heap.size, 0, #[], rfl, Nat.le_refl _, heap_alloc_new w _, Nat.le_refl _, by simp only [maxLen]; omega, rfl, rfl, fun u hu => by simp at hu⟩⟩
/-- A fraction made a row of. -/
theorem rowAt_one (w : World) (g : Nat) (hg : g = w.heap.size) (x : RatD) : RowAt (w.alloc (.cells #[.bool x.b, .slice x.A x.n x.c, .bool x.b', .slice x.A' x.n' x.c'] 27)) (some ⟨g, 0, none⟩) 1 (fun _ => x) := fun i hi => by
  obtain rfl : i = 0 := by omega
  have h := Blk.new w g hg 27 #[.bool x.b, .slice x.A x.n x.c, .bool x.b', .slice x.A' x.n' x.c']
  exact ⟨_, rfl, h.lt, h.cell 0, h.cell 1, h.cell 2, h.cell 3⟩
section
variable {P : Program} {w : World} {ops : Array Oper} {o : Oper} {a : Act} {K : Act → World → Prop} {Q : Exit → Act → World → Prop} {E : Prop}
theorem step_append_rats (hP : P = Tryz.prog) (hgd : o.guard = none) (s x : Operand) (ho : o.op = .call { callee := .builtin .append, args := #[s, x], argTypes := #[22, 22] })
    {base n m c : Nat} {v : Value} {X Y : Nat → RatD} {A : Option Addr} (hs : a.eval s = v) (hown : OwnR w base v n X) (hx : a.eval x = .slice A m c) (hY : RowAt w A m Y) (hA : A = none → m = 0 ∧ c = 0) (hnm : n + m ≤ 1000000) (hbase : base ≤ w.heap.size)
    (h : ∀ v' w', OwnR w' base v' (n + m) (appR X n Y) → Fz base 27 w w' → K (a.put o.dst v') w') : if Region.wanted o (yielded ops a.tmps) = true then Oper.wp P o a w K Q else E := by
  subst hP
  have hw : Region.wanted o (yielded ops a.tmps) = true := by simp [Region.wanted, hgd]
  rw [if_pos hw]
  obtain ⟨v', w', h1, h2, h3⟩ := run_append_rats (w := w) o.type hown hY hA hnm hbase
  exact Go.Lib.wp_append_run w s x _ _ ho v _ hs hx v' w' h1 (h v' w' h2 h3)
end

set_option maxRecDepth 100000 in
set_option maxHeartbeats 1000000 in
theorem lclone_none {w : World} :
    Calls Tryz.prog 48 #[.slice none 0 0] w fun e w' => e = .returned (.slice none 0 0) ∧ w' = w := by
  have hnil := Lib.run_eql_slice_nil (P := Tryz.prog) w 22 27 none 0 0 0 0 Tryz.underlying22
  go_enter Tryz.func48, Tryz.ntmps48
  go_wp2
  go_ret
  exact ⟨rfl, by first | rfl | trivial⟩

set_option maxRecDepth 100000 in
set_option maxHeartbeats 1000000 in
theorem lclone_some {w : World} {ad : Addr} {n c : Nat} {X : Nat → RatD} (h : RowAt w (some ad) n X) (hn : n ≤ 1000000) :
    Calls Tryz.prog 48 #[.slice (some ad) n c] w fun e w' => ∃ v, e = .returned v ∧ OwnR w' w.heap.size v (0 + n) (appR X 0 X) ∧ Below w.heap.size w w' := by
  have H := Lib.hid h
  have HN := Lib.hid hn
  clear h hn
  have hnil := Lib.run_eql_slice_nil (P := Tryz.prog) w 22 27 (some ad) n c 0 0 Tryz.underlying22
  go_enter Tryz.func48, Tryz.ntmps48
  go_wp2_with (at_builtin; refine wpList_append_rats rfl rfl (.tmp 5) (.tmp 6) rfl (base := w.heap.size) (n := 0) (m := n) (c := c) (X := X) (Y := X) rfl (ownR_empty w X) rfl (H.out.below (below_new w _)) (fun e => by cases e) (by have := HN.out; omega) (by simp) ?_; intro v1 w1 hown hfz)
  have HO := Lib.hid hown
  have HB := Lib.hid ((below_new w (.cells #[] 27)).trans hfz.below)
  clear hown hfz
  go_wp2
  go_ret
  exact ⟨_, rfl, HO.out, HB.out⟩

theorem lclone {p : Bool} {k n : Nat} {w : World} {v : Value} {f : Nat → Rat} (h : RowQ p k w v n f) : Calls Tryz.prog 48 #[v] w fun e w' => ∃ v X, e = .returned v ∧ OwnR w' w.heap.size v n X ∧ (∀ i, i < n → EQ p k w' (X i).val (f i)) ∧ Below w.heap.size w w' := by
  obtain ⟨A, c, X, rfl, hc, hn, hA, hX, hE⟩ := h.open_
  cases A with
  | none =>
    obtain ⟨rfl, rfl⟩ := hA rfl
    refine lclone_none.mono ?_
    rintro e w' ⟨rfl, rfl⟩
    exact ⟨_, X, rfl, OwnR.nil, fun i hi => absurd hi (by omega), Below.refl _ _⟩
  | some ad =>
    refine (lclone_some hX hn).mono ?_
    rintro e w' ⟨v, rfl, h1, h2⟩
    rw [Nat.zero_add] at h1
    exact ⟨v, X, rfl, h1.congr fun i hi => (by have := appR_ge X 0 X i; rw [Nat.zero_add] at this; exact this), fun i hi => (hE i hi).below h2, h2⟩

set_option maxRecDepth 100000 in
set_option maxHeartbeats 2000000 in
theorem lsolve1 {p : Bool} {k n : Nat} {w : World} {va vx : Value} {f : Nat → Rat} {x : Rat} (ha : RowQ p k w va n f) (hx : LimQ k w vx x) (hn : n ≤ 1000) :
    Calls Tryz.prog 47 #[va, vx] w fun e w' => ∃ v, e = .returned v ∧ RowT false k w' v (n + 1) (appR f n (fun _ => x)) ∧ Below w.heap.size w w' := by
  obtain ⟨A, ca, rfl, hca, _⟩ := ha.len
  obtain ⟨⟨b7, A7, n7, c7, d7, B7, m7, k7⟩, rfl⟩ := hx.parts
  have HA := Lib.hid ha
  have HX := Lib.hid hx
  have HN := Lib.hid hn
  clear ha hx hn hca
  go_enter Tryz.func47, Tryz.ntmps47
  go_wp2
  generalize hW : w.alloc (.cells #[.bool b7, .slice A7 n7 c7, .bool d7, .slice B7 m7 k7] 27) = w1
  have K1 := Lib.hid (show Blk w1 w.heap.size 27 #[.bool b7, .slice A7 n7 c7, .bool d7, .slice B7 m7 k7] from by rw [← hW]; exact Blk.new _ _ rfl _ _)
  have HB1 := Lib.hid (show Below w.heap.size w w1 from by rw [← hW]; exact below_new _ _)
  have HA1 := Lib.hid (HA.out.below HB1.out)
  have HX1 := Lib.hid (HX.out.below HB1.out)
  clear hW HA HX
  obtain ⟨p0, p1, p2, p3, pl⟩ := K1.out.use4
  have tok0 : True := trivial
  have tok1 : True := trivial
  go_region_held3 (fun w' => w'.cell? ⟨w.heap.size, 0, none⟩ = some (.bool b7) ∧ w'.cell? ⟨w.heap.size, 1, none⟩ = some (.slice A7 n7 c7) ∧ w'.cell? ⟨w.heap.size, 2, none⟩ = some (.bool d7) ∧ w'.cell? ⟨w.heap.size, 3, none⟩ = some (.slice B7 m7 k7)) (first | (refine ⟨?_, ?_, ?_, ?_⟩ <;> (first | with_reducible assumption | ((with_reducible refine Eq.trans (cell_drew _ _) ?_); with_reducible assumption) | go_keep)) | go_keep)
    (first
      | (go_at_call 48; have _t := tok0; clear _t tok0; ((with_reducible refine Calls.mono (lclone (HA1.out.drew_)) ?_)); rintro e w2 ⟨v2, X, rfl, ho, he, hb⟩; have hBw := (show Below w1.heap.size w1 w2 from bundrew hb); have K2 := K1.out.below hBw; obtain ⟨y0, y1, y2, y3, yl⟩ := K2.use4; have HO2 := Lib.hid (show OwnR w2 w1.heap.size v2 n X from ho); have HE2 := Lib.hid he; have HB12 := Lib.hid hBw; have HB2 := Lib.hid (below_trans HB1.out hBw); have HX2 := Lib.hid (HX1.out.below hBw); clear p0 p1 p2 p3 pl hBw ho he hb)
      | (go_at_call 48; have _t := tok0; clear _t tok0; ((with_reducible refine Calls.mono (lclone ((HA1.out.alloc_ _).drew_)) ?_)); rintro e w2 ⟨v2, X, rfl, ho, he, hb⟩; have hBw := (show Below w1.heap.size w1 w2 from by first | exact bundrew (bun hb) | exact bun (bundrew hb)); have K2 := K1.out.below hBw; obtain ⟨y0, y1, y2, y3, yl⟩ := K2.use4; have HO2 := Lib.hid (show OwnR w2 w1.heap.size v2 n X from OwnN.lower ho (by simp)); have HE2 := Lib.hid he; have HB12 := Lib.hid hBw; have HB2 := Lib.hid (below_trans HB1.out hBw); have HX2 := Lib.hid (HX1.out.below hBw); have HY2 := Lib.hid (RowAt.below (rowAt_one w1.drew w1.heap.size rfl ⟨b7, A7, n7, c7, d7, B7, m7, k7⟩) hb); clear p0 p1 p2 p3 pl hBw ho he hb)
      | (have _t := tok1; refine step_append_rats rfl rfl (.tmp 6) (.tmp 8) rfl (base := w1.heap.size) (n := n) (m := 1) (c := 1) (X := X) (Y := fun _ => ⟨b7, A7, n7, c7, d7, B7, m7, k7⟩) rfl (OwnR.alloc_ HO2.out _) rfl (rowAt_one w2 _ rfl ⟨b7, A7, n7, c7, d7, B7, m7, k7⟩) (fun e => by cases e) (by have := HN.out; omega) (by have := HB2.out.size; have := HB12.out.size; simp; omega) ?_; intro v3 w3 ho3 hf3; clear _t tok1; have hB13 := (show Below w1.heap.size w1 w3 from (HB12.out.trans ((below_new w2 (.cells #[.bool b7, .slice A7 n7 c7, .bool d7, .slice B7 m7 k7] 27)).mono HB12.out.size)).trans hf3.below); have K3 := K1.out.below hB13; obtain ⟨z0, z1, z2, z3, zl⟩ := K3.use4; have HO3 := Lib.hid ho3; have HE3 := Lib.hid (fun i (hi : i < n) => ((HE2.out i hi).alloc_ (.cells #[.bool b7, .slice A7 n7 c7, .bool d7, .slice B7 m7 k7] 27)).kp hf3.keep); have HX3 := Lib.hid ((HX2.out.alloc_ (.cells #[.bool b7, .slice A7 n7 c7, .bool d7, .slice B7 m7 k7] 27)).kp hf3.keep); have HB3 := Lib.hid (below_trans HB1.out hB13); clear y0 y1 y2 y3 yl HO2 HE2 HX2 HB2 HB12 hB13 ho3 hf3)
      | (have _t := tok1; refine step_append_rats rfl rfl (.tmp 6) (.tmp 8) rfl (base := w1.heap.size) (n := n) (m := 1) (c := 1) (X := X) (Y := fun _ => ⟨b7, A7, n7, c7, d7, B7, m7, k7⟩) rfl (HO2.out) rfl (HY2.out) (fun e => by cases e) (by have := HN.out; omega) (HB12.out.size) ?_; intro v3 w3 ho3 hf3; clear _t tok1; have hB13 := (show Below w1.heap.size w1 w3 from (HB12.out).trans hf3.below); have K3 := K1.out.below hB13; obtain ⟨z0, z1, z2, z3, zl⟩ := K3.use4; have HO3 := Lib.hid ho3; have HE3 := Lib.hid (fun i (hi : i < n) => (HE2.out i hi).kp hf3.keep); have HX3 := Lib.hid ((HX2.out).kp hf3.keep); have HB3 := Lib.hid (below_trans HB1.out hB13); clear y0 y1 y2 y3 yl HO2 HE2 HX2 HB2 HB12 hB13 ho3 hf3))
  all_goals
    go_wp2
    go_ret
    refine ⟨_, rfl, OwnR.rowT HO3.out (by have := HN.out; omega) fun i hi => ?_, HB3.out⟩
    by_cases h : i < n
    · rw [appR_lt _ _ _ h, appR_lt _ _ _ h]; exact (HE3.out i h).weak
    · obtain ⟨q, rfl⟩ : ∃ q, i = n + q := ⟨i - n, by omega⟩
      rw [appR_ge, appR_ge]; exact EQ.lim HX3.out
end Go.Proofs.YtebdmidghidaeaaGreat
