/- What rows and tables of fractions that came in read as. -/
import Derived.Test.YtebdmidghidaeaaGreatPYq
import Derived.ProofKit
import Derived.OpenShut
import Derived.Lib.SmallJoins
import Derived.Test.YtebdmidghidaeaaGreatPYs
namespace Go.Proofs.YtebdmidghidaeaaGreat
open Go.ChangeShapes Go.WideShapes Go.ChangeAt Go.RowKit
set_option linter.unusedSimpArgs false
set_option linter.unusedVariables false
set_option maxRecDepth 100000

theorem cellsRow_ : Tryz.prog.cellsOf 22 = 1 := by kernel_rfl
theorem adr_add (ad : Addr) (j : Nat) (h : j ≠ 0) : ad.add j = ⟨ad.block, ad.off + j, none⟩ := by
  unfold Addr.add
  rw [if_neg h]
set_option maxRecDepth 100000 in
theorem rrow_trod {H : Type} {enc : TypeId × Value → H} {W : World} {base n : Nat} {held : Bool} {v : Value} {y : DataW H × List MemPlace} (hf : DataW.trod enc Tryz.prog W base (fun _ => true) held n 22 [v] = some y) :
    ∃ (len : Nat) (X : Nat → RatD) (q : Nat → Rat), RowR W v len X q := by
  obtain ⟨d, p⟩ := y
  rcases DataW.trod_slice Tryz.underlying22 hf with ⟨hcs, _⟩ | ⟨a, l, c, elems, rest, n, _, hcs, _, hb, hl, hm, hlen, hel, _⟩
  · simp at hcs
    subst hcs
    exact ⟨0, fun _ => ratZ, fun _ => 0, none, 0, rfl, ⟨Nat.le_refl _, fun _ => rfl⟩, by omega, fun i hi => absurd hi (by omega), fun i hi => absurd hi (by omega)⟩
  · simp at hcs
    subst hcs
    have each : ∀ i, ∃ t : RatD × Rat, i < l → RatAt W (a.add (i * 4)) t.1 ∧ (t.1.n ≤ 1 → t.1.n' ≤ 1 → LimQ 1 W t.1.val t.2) := fun i => by
      by_cases hi : i < l
      · have he := hel i hi
        obtain ⟨y, hy⟩ : ∃ y, elems[i]? = some y := ⟨elems[i], List.getElem?_eq_getElem (by omega)⟩
        rw [hy, Option.bind_eq_some_iff, cellsR_] at he
        obtain ⟨cs, hc, ht⟩ := he
        have hblk := World.cells?_block hc (by omega)
        obtain ⟨_, hcl, hcc⟩ := World.cells?_some hc
        obtain ⟨c0, c1, c2, c3, rfl⟩ : ∃ c0 c1 c2 c3, cs = [c0, c1, c2, c3] := by
          match cs, hcl with
          | [c0, c1, c2, c3], _ => exact ⟨c0, c1, c2, c3, rfl⟩
        have q0 := hcc 0 (by omega)
        have q1 := hcc 1 (by omega)
        have q2 := hcc 2 (by omega)
        have q3 := hcc 3 (by omega)
        obtain ⟨y0, y1, m, _, _, h0, h1⟩ := trod_struct2 Tryz.underlying27 ht
        simp only [cellsRI_, List.drop_zero, List.drop_succ_cons, List.take_succ_cons, List.take_zero] at h0 h1
        obtain ⟨b, s, l', c', X, rfl, rfl, hX⟩ := part_open h0
        obtain ⟨b', s', l'', c'', Y, rfl, rfl, hY⟩ := part_open h1
        refine ⟨(⟨b, s, l', c', b', s', l'', c''⟩, ratOf X Y), fun _ => ⟨⟨hblk, ?_, ?_, ?_, ?_⟩, fun g g' => ⟨X, Y, limR_mk (hX.more g) (hY.more g'), rfl⟩⟩⟩
        · have : (a.add (i * 4)).add 0 = a.add (i * 4) := rfl
          rw [this] at q0
          exact q0
        · rw [adr_add _ 1 (by omega)] at q1; exact q1
        · rw [adr_add _ 2 (by omega)] at q2; exact q2
        · rw [adr_add _ 3 (by omega)] at q3; exact q3
      · exact ⟨(ratZ, 0), fun h => absurd h hi⟩
    obtain ⟨g, hg⟩ := Classical.axiomOfChoice each
    exact ⟨l, fun i => (g i).1, fun i => (g i).2, some a, c, rfl, ⟨hl, fun e => by cases e⟩, by simp only [maxLen] at hm; omega, fun i hi => ⟨a, rfl, (hg i hi).1⟩, fun i hi => (hg i hi).2⟩
set_option maxRecDepth 100000 in
theorem rtab_open {H : Type} {enc : TypeId × Value → H} {W : World} {base b0 : Nat} {held : Bool} {r : Reach} {v : Value} {d : DataW H} {p : List MemPlace} (hv : Value.okWide Tryz.prog W r b0 37 v) (h : DataW.Trod enc Tryz.prog W base (fun _ => true) held 37 v d p) :
    ∃ (A : Option Addr) (len cap : Nat) (Ln : Nat → Nat) (X : Nat → Nat → RatD) (F : Nat → Nat → Rat), v = .slice A len cap ∧ TabR W (.slice A len cap) len Ln X F := by
  obtain ⟨A, len, cap, rfl⟩ := okWide_slice Tryz.underlying37 hv
  obtain ⟨fuel, hf⟩ := h
  have hf : DataW.trod enc Tryz.prog W base (fun _ => true) held fuel 37 [Value.slice A len cap] = some (d, p) := by simpa [Value.cells] using hf
  rcases DataW.trod_slice Tryz.underlying37 hf with ⟨hcs, _⟩ | ⟨a, l, k, elems, rest, n, _, hcs, _, hb, hl, hm, hlen, hel, _⟩
  · simp at hcs
    obtain ⟨rfl, rfl, rfl⟩ := hcs
    exact ⟨none, 0, 0, fun _ => 0, fun _ _ => ratZ, fun _ _ => 0, rfl, none, 0, rfl, ⟨Nat.le_refl _, fun _ => rfl⟩, by omega, fun i hi => absurd hi (by omega)⟩
  · simp at hcs
    obtain ⟨rfl, rfl, rfl⟩ := hcs
    have each : ∀ i, ∃ t : Value × Nat × (Nat → RatD) × (Nat → Rat), i < len → a.block < W.heap.size ∧ W.cell? (a.add i) = some t.1 ∧ RowR W t.1 t.2.1 t.2.2.1 t.2.2.2 := fun i => by
      by_cases hi : i < len
      · have he := hel i hi
        obtain ⟨y, hy⟩ : ∃ y, elems[i]? = some y := ⟨elems[i], List.getElem?_eq_getElem (by omega)⟩
        rw [hy, Option.bind_eq_some_iff, cellsRow_] at he
        obtain ⟨cs, hc, ht⟩ := he
        have hblk := World.cells?_block hc (by omega)
        rw [add_block] at hblk
        obtain ⟨_, hcl, hcc⟩ := World.cells?_some hc
        obtain ⟨c0, rfl⟩ : ∃ c0, cs = [c0] := by
          match cs, hcl with
          | [c0], _ => exact ⟨c0, rfl⟩
        have q0 := hcc 0 (by omega)
        obtain ⟨n2, X2, q2, h2⟩ := rrow_trod ht
        have e00 : (a.add (i * 1)).add 0 = a.add i := by rw [Nat.mul_one]; rfl
        rw [e00] at q0
        exact ⟨(c0, n2, X2, q2), fun _ => ⟨hblk, q0, h2⟩⟩
      · exact ⟨(.bool false, 0, fun _ => ratZ, fun _ => 0), fun h => absurd h hi⟩
    obtain ⟨g, hg⟩ := Classical.axiomOfChoice each
    exact ⟨some a, len, cap, fun i => (g i).2.1, fun i => (g i).2.2.1, fun i => (g i).2.2.2, rfl, some a, cap, rfl, ⟨hl, fun e => by cases e⟩, by simp only [maxLen] at hm; omega, fun i hi => ⟨a, (g i).1, rfl, (hg i hi).1, (hg i hi).2.1, (hg i hi).2.2⟩⟩
end Go.Proofs.YtebdmidghidaeaaGreat

/- LinPivots. -/
namespace Go.Proofs.YtebdmidghidaeaaGreat
open Go.RowKit
attribute [local go_sem ↓] Go.wp_at_zero Go.wp_at_succ
set_option linter.unusedVariables false
set_option linter.unusedSimpArgs false

theorem piv_col {F : Nat → Nat → Rat} {r c : Nat} (hp : F r c ≠ 0) (i : Nat) : pivF F r c i c = if i = r then 1 else 0 := by
  by_cases h : i = r
  · rw [if_pos h, h, pivF_at]; show F r c / F r c = 1; grind
  · rw [if_neg h, pivF_ne F h]; show F i c + F r c / F r c * (0 - F i c) = 0; grind
theorem piv_again {F : Nat → Nat → Rat} {r c : Nat} (hp : F r c ≠ 0) (i j : Nat) : pivF (pivF F r c) r c i j = pivF F r c i j := by
  have h1 := piv_col hp r
  rw [if_pos rfl] at h1
  by_cases h : i = r
  · rw [h, pivF_at (pivF F r c)]; show pivF F r c r j / pivF F r c r c = _; rw [h1]; grind
  · have h2 := piv_col hp i
    rw [if_neg h] at h2
    rw [pivF_ne (pivF F r c) h]; show pivF F r c i j + pivF F r c r j / pivF F r c r c * (0 - pivF F r c i c) = _; rw [h1, h2]; grind
theorem tabQ_nil {p : Bool} {k : Nat} {w : World} {Ln : Nat → Nat} {F : Nat → Nat → Rat} : TabQ p k w (.slice none 0 0) 0 Ln F := ⟨none, 0, rfl, ⟨Nat.le_refl _, fun _ => rfl⟩, by omega, fun i hi => absurd hi (by omega)⟩
theorem pivOk_of {m : Nat} {Ln : Nat → Nat} {F : Nat → Nat → Rat} {r c : Int} {rn cn : Nat} (h1 : r = (rn : Nat)) (h2 : c = (cn : Nat)) (h3 : rn < m) (h4 : cn < Ln rn) (h5 : ∀ i, i < m → Ln i = Ln rn) (h6 : F rn cn ≠ 0) : PivOk m Ln F r c := ⟨rn, cn, h1, h2, h3, h4, h5, h6⟩

set_option maxRecDepth 100000 in
set_option maxHeartbeats 8000000 in
theorem lin_pivots (A : Option Addr) (ca m : Nat) (Ln : Nat → Nat) (X : Nat → Nat → RatD) (F : Nat → Nat → Rat) (r c : Int) (w : World) (ht : TabR w (.slice A m ca) m Ln X F) :
    Calls Tryz.prog 4 #[.slice A m ca, .int .i64 r, .int .i64 c] w fun e w' => e = .returned (.bool true) ∧ Below w.heap.size w w' := by
  have t_0 := Lib.hid ht
  clear ht
  go_enter Tryz.func4, Tryz.ntmps4
  go_wp2_with fail
  refine Calls.mono (awake10 _) ?_
  rintro e w1 ⟨rfl, hb⟩
  have hBw := (show Below w.heap.size w w1 from by first | exact hb | exact bundrew hb)
  have t_1 := Lib.hid (t_0.out.below hBw)
  have HB_1 := Lib.hid (hBw)
  clear hBw hb t_0
  go_wp2_with fail
  refine Calls.mono (rfewrows (N := 5) t_1.out (by omega)) ?_
  rintro e wq ⟨⟨b, rfl, hb⟩, hw⟩
  have hw' := hw.symm
  subst hw'
  clear hw
  cases b
  · clear hb
    go_wp2
    go_ret
    exact ⟨rfl, HB_1.out⟩
  have hf := Lib.hid (hb.1 rfl)
  clear hb
  have T_1 := Lib.hid (t_1.out.few hf.out.1 hf.out.2 (by omega))
  have hm : m ≤ 5 := hf.out.1
  clear t_1 hf
  go_wp2_with fail
  refine Calls.mono (lpivot (K := 5) T_1.out (by omega) (by omega) (by omega)) ?_
  rintro e w2 ⟨hb, hl⟩
  have hBw := (show Below w1.heap.size w1 w2 from by first | exact hb | exact bundrew hb)
  have T_2 := Lib.hid (T_1.out.below hBw)
  have HB_2 := Lib.hid (below_trans HB_1.out hBw)
  clear hBw hb T_1 HB_1
  obtain ⟨hno, rfl⟩ | ⟨rn, cn, v, e1, e2, h3, h4, h5, h6, rfl, hv⟩ := hl
  · go_wp2_with fail
    refine Calls.mono (rpivot (K := 5) T_2.out (by omega) (by omega) (by omega)) ?_
    rintro e w3 ⟨hb, hr⟩
    have hBw := (show Below w2.heap.size w2 w3 from by first | exact hb | exact bundrew hb)
    have T_3 := Lib.hid (T_2.out.below hBw)
    have HB_3 := Lib.hid (below_trans HB_2.out hBw)
    clear hBw hb T_2 HB_2
    clear T_3
    obtain ⟨_, rfl⟩ | ⟨rn, cn, v, e1, e2, h3, h4, h5, h6, rfl, hv⟩ := hr
    rotate_left
    · exact absurd (pivOk_of e1 e2 h3 h4 h5 h6) hno
    clear hno
    go_wp2_with fail
    refine Calls.mono (rtables (k := 1) (l := 1) (Ln := fun _ => 0) (Mn := fun _ => 0) (F := fun _ _ => 0) (G := fun _ _ => 0) tabQ_nil tabQ_nil (fun _ _ => rfl) (fun _ _ _ _ => rfl) (by omega)) ?_
    rintro e w4 ⟨rfl, hb⟩
    have hBw := (show Below w3.heap.size w3 w4 from by first | exact hb | exact bundrew hb)
    have HB_4 := Lib.hid (below_trans HB_3.out hBw)
    clear hBw hb HB_3
    go_wp2
    go_ret
    exact ⟨rfl, HB_4.out⟩
  have pv_2 := Lib.hid hv
  obtain ⟨VA, VC, rfl, _, _⟩ := hv.len
  clear hv
  go_wp2_with fail
  refine Calls.mono (rpivot (K := 5) T_2.out (by omega) (by omega) (by omega)) ?_
  rintro e w3 ⟨hb, hr⟩
  have hBw := (show Below w2.heap.size w2 w3 from by first | exact hb | exact bundrew hb)
  have T_3 := Lib.hid (T_2.out.below hBw)
  have pv_3 := Lib.hid (pv_2.out.below hBw)
  have HB_3 := Lib.hid (below_trans HB_2.out hBw)
  clear hBw hb T_2 pv_2 HB_2
  clear T_3
  obtain ⟨hno, rfl⟩ | ⟨rn', cn', u, e1', e2', _, _, _, _, rfl, hu⟩ := hr
  · first | exact absurd (pivOk_of e1 e2 h3 h4 h5 h6) hno | exact absurd (pivOk_of (rn := rn) (cn := cn) rfl rfl h3 h4 h5 h6) hno
  obtain rfl : rn = rn' := by omega
  obtain rfl : cn = cn' := by omega
  (try subst e1)
  (try subst e2)
  clear e1' e2'
  generalize hLn : Ln rn = n at *
  have pu_3 := Lib.hid hu
  have HP := Lib.hid h6
  clear hu h6 hLn
  obtain ⟨UA, UC, rfl, _, _⟩ := pu_3.out.len
  go_wp2_with fail
  refine Calls.mono (rtables pv_3.out pu_3.out (fun _ _ => rfl) (fun _ _ _ _ => rfl) (by omega)) ?_
  rintro e w4 ⟨rfl, hb⟩
  have hBw := (show Below w3.heap.size w3 w4 from by first | exact hb | exact bundrew hb)
  have pv_4 := Lib.hid (pv_3.out.below hBw)
  have pu_4 := Lib.hid (pu_3.out.below hBw)
  have HB_4 := Lib.hid (below_trans HB_3.out hBw)
  clear hBw hb pv_3 pu_3 HB_3
  go_wp2
  go_loopw [11] (fun v11 wr => ∃ (i : Nat), v11 = .int .i64 (i : Nat) ∧ i ≤ m ∧ Below w4.heap.size w4 wr) (fun v11 _ => m - (intOf v11).toNat)
  case atStart => exact ⟨0, rfl, Nat.zero_le _, Below.refl _ _⟩
  case round =>
    obtain ⟨w20, rfl⟩ : ∃ x, x = wr := ⟨wr, rfl⟩
    obtain ⟨i, rfl, hi, hbw⟩ := hrel
    have PV_20 := Lib.hid (pv_4.out.below hbw)
    have HBI_20 := Lib.hid hbw
    have HB_20 := Lib.hid (below_trans HB_4.out hbw)
    clear hbw
    by_cases hlt : i < m
    · have hi0 : (0 : Int) ≤ (i : Int) := by omega
      have hik : (i : Int) < (m : Int) := by omega
      have hc0 : (0 : Int) ≤ (cn : Int) := by omega
      have hcn : (cn : Int) < (n : Int) := by omega
      go_wp2_with fail
      refine Calls.mono (lawOf_is law_d0 _ (by omega) (by omega)) ?_
      rintro e w21 ⟨v, rfl, h, hb⟩
      obtain ⟨b21, A21, n21, c21, d21, B21, m21, k21, rfl, -, -, -, -, -⟩ := h.form
      have hE := h
      have hBw := (show Below w20.heap.size w20 w21 from by first | exact hb | exact bundrew hb)
      have hbX := Lib.hid hBw
      have PV_21 := Lib.hid (PV_20.out.below hBw)
      have e0_21 := Lib.hid (hE)
      have HB_21 := Lib.hid (below_trans HB_20.out hBw)
      clear hBw hb PV_20 HB_20
      clear h hE
      have HBI_21 := Lib.hid (below_trans HBI_20.out hbX.out)
      clear hbX
      by_cases hir : i = rn
      · have PVJ := PV_21
        have hii : ((i : Int) == (rn : Int)) = true := by rw [hir]; simp
        have hpvi : pivF F rn cn i cn = 1 := by rw [piv_col HP.out, if_pos hir]
        have hir2 := Lib.hid hir
        clear hir
        go_wp2_with fail
        generalize hW : w21.alloc (.cells #[.bool b21, .slice A21 n21 c21, .bool d21, .slice B21 m21 k21] 27) = w22
        have hz_22 := Lib.hid (show w22.heap.size = w21.heap.size + 1 from by rw [← hW]; simp)
        have PV_22 := Lib.hid (hW ▸ PV_21.out.alloc_ _)
        have e0_22 := Lib.hid (hW ▸ e0_21.out.alloc_ _)
        have ka_22 : Hid (Blk w22 w21.heap.size 27 #[.bool b21, .slice A21 n21 c21, .bool d21, .slice B21 m21 k21]) := by rw [← hW]; exact Blk.new _ _ rfl _ _
        have HB_22 := Lib.hid (show Below w.heap.size w w22 from hW ▸ halloc HB_21.out)
        have hnw := Lib.hid (show Below w21.heap.size w21 w22 from hW ▸ below_new _ _)
        clear hW PV_21 e0_21 HB_21
        have HBJ_22 := hnw
        clear hnw PV_22
        clear e0_22
        refine Calls.mono (lawOf_is law_d1 _ (by omega) (by omega)) ?_
        rintro e w23 ⟨v, rfl, h, hb⟩
        obtain ⟨b23, A23, n23, c23, d23, B23, m23, k23, rfl, -, -, -, -, -⟩ := h.form
        have e1_23 := Lib.hid h
        have ka_23 := Lib.hid (ka_22.out.below hb)
        have HBJ_23 := Lib.hid (below_trans HBJ_22.out hb)
        clear h hb ka_22
        obtain ⟨u0, u1, u2, u3, ul⟩ := ka_23.out.use4
        obtain ⟨v0, v1, v2, v3⟩ := ka_23.out.into4
        go_wp2
        generalize hW : ((((w23.setCell ⟨w21.heap.size, 0, none⟩ (.bool b23)).setCell ⟨w21.heap.size, 1, none⟩ (.slice A23 n23 c23)).setCell ⟨w21.heap.size, 2, none⟩ (.bool d23)).setCell ⟨w21.heap.size, 3, none⟩ (.slice B23 m23 k23)) = w24
        have kb_24 : Hid (Blk w24 w21.heap.size 27 #[.bool b23, .slice A23 n23 c23, .bool d23, .slice B23 m23 k23]) := by rw [← hW]; exact ka_23.out.own4
        have bx_24 : Hid (IsRat w24 (.agg #[.bool b23, .slice A23 n23 c23, .bool d23, .slice B23 m23 k23]) 1) := by rw [← hW]; exact e1_23.out.other4 ka_23.out nu nu nu nu
        have HBK : Hid (Below w21.heap.size w21 w24) := by rw [← hW]; exact Below.set4 HBJ_23.out (Nat.le_refl _)
        have PV_24 := Lib.hid (PVJ.out.below HBK.out)
        have HBI_24 := Lib.hid (below_trans HBI_21.out HBK.out)
        clear hW ka_23 e1_23 HBJ_23 HBK u0 u1 u2 u3 ul v0 v1 v2 v3
        obtain ⟨td, ct', R, cR, e1, _, htb, hcell, _, _, hR⟩ := PV_24.out.at_ hlt
        simp only [Value.slice.injEq] at e1
        obtain ⟨rfl, _, rfl⟩ := e1
        obtain ⟨rd, cr, ⟨b8, A8, n8, c8, d8, B8, m8, k8⟩, e1, _, _, ⟨x0, x1, x2, x3, x4⟩, hE⟩ := hR.at_ h4
        simp only [Value.slice.injEq] at e1
        obtain ⟨rfl, _, rfl⟩ := e1
        have HE8 := Lib.hid (show IsRat w24 (.agg #[.bool b8, .slice A8 n8 c8, .bool d8, .slice B8 m8 k8]) 1 from by
          have := (hE.1 rfl).1
          rw [piv_col HP.out] at this
          rw [if_pos hir2.out] at this
          exact this)
        have tok0 : True := trivial
        obtain ⟨p0, p1, p2, p3, pl⟩ := kb_24.out.use4
        clear hR hE
        go_region_held3 (fun w' => w'.cell? (td.add i) = some (.slice (some rd) n cR) ∧ w'.cell? (rd.add (cn * 4)) = some (.bool b8) ∧ w'.cell? ⟨(rd.add (cn * 4)).block, (rd.add (cn * 4)).off + 1, none⟩ = some (.slice A8 n8 c8) ∧ w'.cell? ⟨(rd.add (cn * 4)).block, (rd.add (cn * 4)).off + 2, none⟩ = some (.bool d8) ∧ w'.cell? ⟨(rd.add (cn * 4)).block, (rd.add (cn * 4)).off + 3, none⟩ = some (.slice B8 m8 k8) ∧ w'.cell? ⟨w21.heap.size, 0, none⟩ = some (.bool b23) ∧ w'.cell? ⟨w21.heap.size, 1, none⟩ = some (.slice A23 n23 c23) ∧ w'.cell? ⟨w21.heap.size, 2, none⟩ = some (.bool d23) ∧ w'.cell? ⟨w21.heap.size, 3, none⟩ = some (.slice B23 m23 k23)) (first | (refine ⟨?_, ?_, ?_, ?_, ?_, ?_, ?_, ?_, ?_⟩ <;> (first | with_reducible assumption | ((with_reducible refine Eq.trans (cell_drew _ _) ?_); with_reducible assumption) | go_keep)) | go_keep)
          (first
            | (go_at_call 16; have _t := tok0; clear _t tok0; ((with_reducible refine Calls.mono (rat_same HE8.out.drew_ bx_24.out.drew_ bq1 (by omega)) ?_)); rintro e w40 ⟨rfl, hb⟩; have hBw := (show Below w24.heap.size w24 w40 from by first | exact hb | exact bundrew hb); have hc2 := (hBw.cell (p := td.add i) (by rw [add_block]; exact htb)).trans hcell; have y1 := (hBw.cell (p := (rd.add (cn * 4))) x0).trans x1; have y2 := (hBw.cell (p := ⟨(rd.add (cn * 4)).block, (rd.add (cn * 4)).off + 1, none⟩) x0).trans x2; have y3 := (hBw.cell (p := ⟨(rd.add (cn * 4)).block, (rd.add (cn * 4)).off + 2, none⟩) x0).trans x3; have y4 := (hBw.cell (p := ⟨(rd.add (cn * 4)).block, (rd.add (cn * 4)).off + 3, none⟩) x0).trans x4; have KB40 := kb_24.out.below hBw; obtain ⟨q0, q1, q2, q3, ql⟩ := KB40.use4; have HB40 := Lib.hid hBw; clear hb hBw hcell x1 x2 x3 x4 p0 p1 p2 p3 pl KB40))
        have HINV := Lib.hid (below_trans HBI_24.out HB40.out)
        clear hc2 y1 y2 y3 y4 q0 q1 q2 q3 ql HB40
        go_wp2
        go_roundw
        case rel => exact ⟨i + 1, by go_num, by omega, HINV.out⟩
        case measure => simp [intOf]; omega
      · have hir' : ¬ (i : Int) = (rn : Int) := by omega
        go_wp2
        generalize hW : w21.alloc (.cells #[.bool b21, .slice A21 n21 c21, .bool d21, .slice B21 m21 k21] 27) = w22
        have hz_22 := Lib.hid (show w22.heap.size = w21.heap.size + 1 from by rw [← hW]; simp)
        have PV_22 := Lib.hid (hW ▸ PV_21.out.alloc_ _)
        have e0_22 := Lib.hid (hW ▸ e0_21.out.alloc_ _)
        have kb_22 : Hid (Blk w22 w21.heap.size 27 #[.bool b21, .slice A21 n21 c21, .bool d21, .slice B21 m21 k21]) := by rw [← hW]; exact Blk.new _ _ rfl _ _
        have HB_22 := Lib.hid (show Below w.heap.size w w22 from hW ▸ halloc HB_21.out)
        have hnw := Lib.hid (show Below w21.heap.size w21 w22 from hW ▸ below_new _ _)
        clear hW PV_21 e0_21 HB_21
        have bx_22 := e0_22
        have HBI_22 := Lib.hid (below_trans HBI_21.out (hnw.out))
        clear hnw
        obtain ⟨td, ct', R, cR, e1, _, htb, hcell, _, _, hR⟩ := PV_22.out.at_ hlt
        simp only [Value.slice.injEq] at e1
        obtain ⟨rfl, _, rfl⟩ := e1
        obtain ⟨rd, cr, ⟨b8, A8, n8, c8, d8, B8, m8, k8⟩, e1, _, _, ⟨x0, x1, x2, x3, x4⟩, hE⟩ := hR.at_ h4
        simp only [Value.slice.injEq] at e1
        obtain ⟨rfl, _, rfl⟩ := e1
        have HE8 := Lib.hid (show IsRat w22 (.agg #[.bool b8, .slice A8 n8 c8, .bool d8, .slice B8 m8 k8]) 0 from by
          have := (hE.1 rfl).1
          rw [piv_col HP.out] at this
          rw [if_neg hir] at this
          exact this)
        have tok0 : True := trivial
        obtain ⟨p0, p1, p2, p3, pl⟩ := kb_22.out.use4
        clear hR hE
        go_region_held3 (fun w' => w'.cell? (td.add i) = some (.slice (some rd) n cR) ∧ w'.cell? (rd.add (cn * 4)) = some (.bool b8) ∧ w'.cell? ⟨(rd.add (cn * 4)).block, (rd.add (cn * 4)).off + 1, none⟩ = some (.slice A8 n8 c8) ∧ w'.cell? ⟨(rd.add (cn * 4)).block, (rd.add (cn * 4)).off + 2, none⟩ = some (.bool d8) ∧ w'.cell? ⟨(rd.add (cn * 4)).block, (rd.add (cn * 4)).off + 3, none⟩ = some (.slice B8 m8 k8) ∧ w'.cell? ⟨w21.heap.size, 0, none⟩ = some (.bool b21) ∧ w'.cell? ⟨w21.heap.size, 1, none⟩ = some (.slice A21 n21 c21) ∧ w'.cell? ⟨w21.heap.size, 2, none⟩ = some (.bool d21) ∧ w'.cell? ⟨w21.heap.size, 3, none⟩ = some (.slice B21 m21 k21)) (first | (refine ⟨?_, ?_, ?_, ?_, ?_, ?_, ?_, ?_, ?_⟩ <;> (first | with_reducible assumption | ((with_reducible refine Eq.trans (cell_drew _ _) ?_); with_reducible assumption) | go_keep)) | go_keep)
          (first
            | (go_at_call 16; have _t := tok0; clear _t tok0; ((with_reducible refine Calls.mono (rat_same HE8.out.drew_ bx_22.out.drew_ bq0 (by omega)) ?_)); rintro e w40 ⟨rfl, hb⟩; have hBw := (show Below w22.heap.size w22 w40 from by first | exact hb | exact bundrew hb); have hc2 := (hBw.cell (p := td.add i) (by rw [add_block]; exact htb)).trans hcell; have y1 := (hBw.cell (p := (rd.add (cn * 4))) x0).trans x1; have y2 := (hBw.cell (p := ⟨(rd.add (cn * 4)).block, (rd.add (cn * 4)).off + 1, none⟩) x0).trans x2; have y3 := (hBw.cell (p := ⟨(rd.add (cn * 4)).block, (rd.add (cn * 4)).off + 2, none⟩) x0).trans x3; have y4 := (hBw.cell (p := ⟨(rd.add (cn * 4)).block, (rd.add (cn * 4)).off + 3, none⟩) x0).trans x4; have KB40 := kb_22.out.below hBw; obtain ⟨q0, q1, q2, q3, ql⟩ := KB40.use4; have HB40 := Lib.hid hBw; clear hb hBw hcell x1 x2 x3 x4 p0 p1 p2 p3 pl KB40))
        have HINV := Lib.hid (below_trans HBI_22.out HB40.out)
        clear hc2 y1 y2 y3 y4 q0 q1 q2 q3 ql HB40
        go_wp2
        go_roundw
        case rel => exact ⟨i + 1, by go_num, by omega, HINV.out⟩
        case measure => simp [intOf]; omega
    · obtain rfl : i = m := by omega
      go_wp2_with fail
      refine Calls.mono (lpivot (K := 21) (r := (rn : Nat)) (c := (cn : Nat)) PV_20.out (by omega) (by omega) (by omega)) ?_
      rintro e w21 ⟨hb, hres⟩
      obtain ⟨hno, _⟩ | ⟨r2, c2, z, e1, e2, _, _, _, _, rfl, hz⟩ := hres
      · exact absurd (pivOk_of (rn := rn) (cn := cn) rfl rfl h3 h4 (fun _ _ => rfl) (by rw [piv_col HP.out, if_pos rfl]; decide)) hno
      obtain rfl : rn = r2 := by omega
      obtain rfl : cn = c2 := by omega
      obtain ⟨ZA, ZC, rfl, _, _⟩ := hz.len
      have hBw := (show Below w20.heap.size w20 w21 from by first | exact hb | exact bundrew hb)
      have PV_21 := Lib.hid (PV_20.out.below hBw)
      have again_21 := Lib.hid (hz)
      have HB_21 := Lib.hid (below_trans HB_20.out hBw)
      clear hBw hb PV_20 HB_20
      clear hz e1 e2
      go_wp2_with fail
      refine Calls.mono (rtables again_21.out PV_21.out (fun _ _ => rfl) (fun i _ j _ => piv_again HP.out i j) (by omega)) ?_
      rintro e w22 ⟨rfl, hb⟩
      have hBw := (show Below w21.heap.size w21 w22 from by first | exact hb | exact bundrew hb)
      have PV_22 := Lib.hid (PV_21.out.below hBw)
      have again_22 := Lib.hid (again_21.out.below hBw)
      have HB_22 := Lib.hid (below_trans HB_21.out hBw)
      clear hBw hb PV_21 again_21 HB_21
      go_wp2
      go_ret
      exact ⟨rfl, HB_22.out⟩
end Go.Proofs.YtebdmidghidaeaaGreat
