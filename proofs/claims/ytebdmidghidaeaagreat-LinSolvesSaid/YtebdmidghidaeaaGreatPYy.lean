/- What rows and tables of fractions that came in read as. -/
import Derived.Test.YtebdmidghidaeaaGreatPYq
import Derived.ProofKit
import Derived.OpenShut
import Derived.Lib.SmallJoins
import Derived.Test.YtebdmidghidaeaaGreatPYs
import Derived.Maps.AppendAt
namespace Go.Proofs.YtebdmidghidaeaaGreat
open Go.ChangeShapes Go.WideShapes Go.ChangeAt Go.RowKit
set_option linter.unusedSimpArgs false
set_option linter.unusedVariables false
set_option maxRecDepth 100000

theorem cellsRow_ : Tryz.prog.cellsOf 22 = 1 := by kernel_rfl
theorem adr_add (ad : Addr) (j : Nat) (h : j ≠ 0) : ad.add j = ⟨ad.block, ad.off + j, none⟩ := by
  unfold Addr.add
  rw [if_neg h]
set_option maxRecDepth 100000 in
theorem rrow_trod {H : Type} {enc : TypeId × Value → H} {W : World} {base n : Nat} {held : Bool} {v : Value} {y : DataW H × List MemPlace} (hf : DataW.trod enc Tryz.prog W base (fun _ => true) held n 22 [v] = some y) :
    ∃ (len : Nat) (X : Nat → RatD) (q : Nat → Rat), RowR W v len X q := by
  obtain ⟨d, p⟩ := y
  rcases DataW.trod_slice Tryz.underlying22 hf with ⟨hcs, _⟩ | ⟨a, l, c, elems, rest, n, _, hcs, _, hb, hl, hm, hlen, hel, _⟩
  · simp at hcs
    subst hcs
    exact ⟨0, fun _ => ratZ, fun _ => 0, none, 0, rfl, ⟨Nat.le_refl _, fun _ => rfl⟩, by omega, fun i hi => absurd hi (by omega), fun i hi => absurd hi (by omega)⟩
  · simp at hcs
    subst hcs
    have each : ∀ i, ∃ t : RatD × Rat, i < l → RatAt W (a.add (i * 4)) t.1 ∧ (t.1.n ≤ 1 → t.1.n' ≤ 1 → LimQ 1 W t.1.val t.2) := fun i => by
      by_cases hi : i < l
      · have he := hel i hi
        obtain ⟨y, hy⟩ : ∃ y, elems[i]? = some y := ⟨elems[i], List.getElem?_eq_getElem (by omega)⟩
        rw [hy, Option.bind_eq_some_iff, cellsR_] at he
        obtain ⟨cs, hc, ht⟩ := he
        have hblk := World.cells?_block hc (by omega)
        obtain ⟨_, hcl, hcc⟩ := World.cells?_some hc
        obtain ⟨c0, c1, c2, c3, rfl⟩ : ∃ c0 c1 c2 c3, cs = [c0, c1, c2, c3] := by
          match cs, hcl with
          | [c0, c1, c2, c3], _ => exact ⟨c0, c1, c2, c3, rfl⟩
        have q0 := hcc 0 (by omega)
        have q1 := hcc 1 (by omega)
        have q2 := hcc 2 (by omega)
        have q3 := hcc 3 (by omega)
        obtain ⟨y0, y1, m, _, _, h0, h1⟩ := trod_struct2 Tryz.underlying27 ht
        simp only [cellsRI_, List.drop_zero, List.drop_succ_cons, List.take_succ_cons, List.take_zero] at h0 h1
        obtain ⟨b, s, l', c', X, rfl, rfl, hX⟩ := part_open h0
        obtain ⟨b', s', l'', c'', Y, rfl, rfl, hY⟩ := part_open h1
        refine ⟨(⟨b, s, l', c', b', s', l'', c''⟩, ratOf X Y), fun _ => ⟨⟨hblk, ?_, ?_, ?_, ?_⟩, fun g g' => ⟨X, Y, limR_mk (hX.more g) (hY.more g'), rfl⟩⟩⟩
        · have : (a.add (i * 4)).add 0 = a.add (i * 4) := rfl
          rw [this] at q0
          exact q0
        · rw [adr_add _ 1 (by omega)] at q1; exact q1
        · rw [adr_add _ 2 (by omega)] at q2; exact q2
        · rw [adr_add _ 3 (by omega)] at q3; exact q3
      · exact ⟨(ratZ, 0), fun h => absurd h hi⟩
    obtain ⟨g, hg⟩ := Classical.axiomOfChoice each
    exact ⟨l, fun i => (g i).1, fun i => (g i).2, some a, c, rfl, ⟨hl, fun e => by cases e⟩, by simp only [maxLen] at hm; omega, fun i hi => ⟨a, rfl, (hg i hi).1⟩, fun i hi => (hg i hi).2⟩
theorem rrow_open {H : Type} {enc : TypeId × Value → H} {W : World} {base b0 : Nat} {held : Bool} {r : Reach} {v : Value} {d : DataW H} {p : List MemPlace} (hv : Value.okWide Tryz.prog W r b0 22 v) (h : DataW.Trod enc Tryz.prog W base (fun _ => true) held 22 v d p) :
    ∃ (A : Option Addr) (len cap : Nat) (X : Nat → RatD) (q : Nat → Rat), v = .slice A len cap ∧ RowR W (.slice A len cap) len X q := by
  obtain ⟨A, len, cap, rfl⟩ := okWide_slice Tryz.underlying22 hv
  obtain ⟨fuel, hf⟩ := h
  have hf : DataW.trod enc Tryz.prog W base (fun _ => true) held fuel 22 [Value.slice A len cap] = some (d, p) := by simpa [Value.cells] using hf
  obtain ⟨n, X, q, h⟩ := rrow_trod hf
  obtain ⟨A', c', e, _⟩ := id h
  injection e with _ e _
  subst e
  exact ⟨A, len, cap, X, q, rfl, h⟩
set_option maxRecDepth 100000 in
theorem rtab_open {H : Type} {enc : TypeId × Value → H} {W : World} {base b0 : Nat} {held : Bool} {r : Reach} {v : Value} {d : DataW H} {p : List MemPlace} (hv : Value.okWide Tryz.prog W r b0 37 v) (h : DataW.Trod enc Tryz.prog W base (fun _ => true) held 37 v d p) :
    ∃ (A : Option Addr) (len cap : Nat) (Ln : Nat → Nat) (X : Nat → Nat → RatD) (F : Nat → Nat → Rat), v = .slice A len cap ∧ TabR W (.slice A len cap) len Ln X F := by
  obtain ⟨A, len, cap, rfl⟩ := okWide_slice Tryz.underlying37 hv
  obtain ⟨fuel, hf⟩ := h
  have hf : DataW.trod enc Tryz.prog W base (fun _ => true) held fuel 37 [Value.slice A len cap] = some (d, p) := by simpa [Value.cells] using hf
  rcases DataW.trod_slice Tryz.underlying37 hf with ⟨hcs, _⟩ | ⟨a, l, k, elems, rest, n, _, hcs, _, hb, hl, hm, hlen, hel, _⟩
  · simp at hcs
    obtain ⟨rfl, rfl, rfl⟩ := hcs
    exact ⟨none, 0, 0, fun _ => 0, fun _ _ => ratZ, fun _ _ => 0, rfl, none, 0, rfl, ⟨Nat.le_refl _, fun _ => rfl⟩, by omega, fun i hi => absurd hi (by omega)⟩
  · simp at hcs
    obtain ⟨rfl, rfl, rfl⟩ := hcs
    have each : ∀ i, ∃ t : Value × Nat × (Nat → RatD) × (Nat → Rat), i < len → a.block < W.heap.size ∧ W.cell? (a.add i) = some t.1 ∧ RowR W t.1 t.2.1 t.2.2.1 t.2.2.2 := fun i => by
      by_cases hi : i < len
      · have he := hel i hi
        obtain ⟨y, hy⟩ : ∃ y, elems[i]? = some y := ⟨elems[i], List.getElem?_eq_getElem (by omega)⟩
        rw [hy, Option.bind_eq_some_iff, cellsRow_] at he
        obtain ⟨cs, hc, ht⟩ := he
        have hblk := World.cells?_block hc (by omega)
        rw [add_block] at hblk
        obtain ⟨_, hcl, hcc⟩ := World.cells?_some hc
        obtain ⟨c0, rfl⟩ : ∃ c0, cs = [c0] := by
          match cs, hcl with
          | [c0], _ => exact ⟨c0, rfl⟩
        have q0 := hcc 0 (by omega)
        obtain ⟨n2, X2, q2, h2⟩ := rrow_trod ht
        have e00 : (a.add (i * 1)).add 0 = a.add i := by rw [Nat.mul_one]; rfl
        rw [e00] at q0
        exact ⟨(c0, n2, X2, q2), fun _ => ⟨hblk, q0, h2⟩⟩
      · exact ⟨(.bool false, 0, fun _ => ratZ, fun _ => 0), fun h => absurd h hi⟩
    obtain ⟨g, hg⟩ := Classical.axiomOfChoice each
    exact ⟨some a, len, cap, fun i => (g i).2.1, fun i => (g i).2.2.1, fun i => (g i).2.2.2, rfl, some a, cap, rfl, ⟨hl, fun e => by cases e⟩, by simp only [maxLen] at hm; omega, fun i hi => ⟨a, (g i).1, rfl, (hg i hi).1, (hg i hi).2.1, (hg i hi).2.2⟩⟩
end Go.Proofs.YtebdmidghidaeaaGreat

/- LinScaled. -/
namespace Go.Proofs.YtebdmidghidaeaaGreat
open Go.RowKit
attribute [local go_sem ↓] Go.wp_at_zero Go.wp_at_succ
set_option linter.unusedVariables false
set_option linter.unusedSimpArgs false

theorem EQ.lq {p : Bool} {k : Nat} {w : World} {v : Value} {q : Rat} (h : EQ p k w v q) : LimQ k w v q := h.2
theorem RowQ.rows_ {p : Bool} {k n : Nat} {w : World} {A : Option Addr} {c : Nat} {f : Nat → Rat} (h : RowQ p k w (.slice A n c) n f) : ∃ X : Nat → RatD, RowAt w A n X ∧ (A = none → n = 0 ∧ c = 0) ∧ ∀ i, i < n → EQ p k w (X i).val (f i) := by
  obtain ⟨A', c', X, e, h1, h2, h3, h4, h5⟩ := h.open_
  injection e with e _ e'
  subst e
  subst e'
  exact ⟨X, h4, h3, h5⟩
theorem szF_le1 {m : Nat} (h : m ≤ 4) : szF 1 m ≤ 341 := Nat.le_trans (szF_mono 1 h) (by decide)

end Go.Proofs.YtebdmidghidaeaaGreat

/- More on rows of one's own: what append leaves of other blocks; rows of other values; tables under stores into blocks that hold no slice. -/
namespace Go.Proofs.YtebdmidghidaeaaGreat
open Go.RowKit
set_option linter.unusedSimpArgs false
set_option linter.unusedVariables false
set_option maxRecDepth 100000

theorem RowAt.cells_ {w : World} {ad : Addr} {m : Nat} {Y : Nat → RatD} (hY : RowAt w (some ad) m Y) : ∀ j u, (rowR Y m)[j]? = some u → w.cell? (ad.add j) = some u := fun j u hu => by
  have hj : j < m * 4 := by
    rcases Nat.lt_or_ge j (m * 4) with h1 | h1
    · exact h1
    · rw [List.getElem?_eq_none (by rw [rowR_len]; exact h1)] at hu; cases hu
  have e : j = j / 4 * 4 + j % 4 := by omega
  have hi : j / 4 < m := by omega
  have hr : j % 4 < 4 := by omega
  generalize j / 4 = q at *
  generalize j % 4 = r at *
  subst e
  rw [rowR_get Y hr m hi] at hu
  obtain ⟨ad', e', p0, p1, p2, p3, p4⟩ := hY q hi
  injection e' with e'
  subst e'
  have hcl : ∀ j, j ≠ 0 → (⟨(ad.add (q * 4)).block, (ad.add (q * 4)).off + j, none⟩ : Addr) = (ad.add (q * 4)).add j := fun j hj => by
    generalize ad.add (q * 4) = b
    unfold Addr.add
    rw [if_neg hj]
  rw [← add_add]
  have : r = 0 ∨ r = 1 ∨ r = 2 ∨ r = 3 := by omega
  rcases this with rfl | rfl | rfl | rfl <;> simp [ratL] at hu <;> subst hu
  · exact p1
  · rw [← hcl 1 (by omega)]; exact p2
  · rw [← hcl 2 (by omega)]; exact p3
  · rw [← hcl 3 (by omega)]; exact p4
section
variable {w : World}
theorem run_append_rats2 (ty : TypeId) {base n m c : Nat} {v : Value} {X Y : Nat → RatD} {A : Option Addr} (hown : OwnR w base v n X) (hY : RowAt w A m Y) (hA : A = none → m = 0 ∧ c = 0) (hnm : n + m ≤ 1000000) (hbase : base ≤ w.heap.size) :
    ∃ v' w', (Builtin.append_ #[22, 22] ty #[v, .slice A m c]).run Tryz.prog w = .ok v' w' ∧ OwnR w' base v' (n + m) (appR X n Y) ∧ Fz base 27 w w' ∧ w.grownBy w' v.ownBlock := by
  obtain ⟨v', w', h1, h2, h3⟩ := run_append_rats (w := w) ty hown hY hA hnm hbase
  refine ⟨v', w', h1, h2, h3, ?_⟩
  obtain ⟨i, hi, hz, hs, hby⟩ := info_parts rat_info
  cases A with
  | none =>
    obtain ⟨rfl, rfl⟩ := hA rfl
    have hr := run_append_owned_none (P := Tryz.prog) (w := w) base 22 ty 27 i 4 Tryz.underlying22 hi v n _ (OwnN.own hown)
    rw [h1] at hr
    injection hr with e1 e2
    subst e2
    exact ⟨rfl, rfl, rfl, Nat.le_refl _, fun _ _ _ => rfl⟩
  | some ad =>
    obtain ⟨v2, w2, hr, _, hg, _, _⟩ := run_append_own_at (P := Tryz.prog) w base 22 ty 27 i ratZ.val 4 64 Tryz.underlying22 hi hz hs hby rfl (by omega) v n _ (OwnN.own hown) ad m c (rowR Y m) (rowR_len Y m) hY.cells_ (fun u hu => by obtain ⟨i, h⟩ := rowR_mem hu; exact ratL_one _ u h) (by simp only [maxLen]; omega) (by omega) hbase
    rw [h1] at hr
    injection hr with e1 e2
    subst e2
    exact hg
variable {P : Program} {ops : Array Oper} {o : Oper} {a : Act} {K : Act → World → Prop} {Q : Exit → Act → World → Prop} {E : Prop}
theorem step_append_rats2 (hP : P = Tryz.prog) (hgd : o.guard = none) (s x : Operand) (ho : o.op = .call { callee := .builtin .append, args := #[s, x], argTypes := #[22, 22] })
    {base n m c : Nat} {v : Value} {X Y : Nat → RatD} {A : Option Addr} (hs : a.eval s = v) (hown : OwnR w base v n X) (hx : a.eval x = .slice A m c) (hY : RowAt w A m Y) (hA : A = none → m = 0 ∧ c = 0) (hnm : n + m ≤ 1000000) (hbase : base ≤ w.heap.size)
    (h : ∀ v' w', OwnR w' base v' (n + m) (appR X n Y) → Fz base 27 w w' → w.grownBy w' v.ownBlock → K (a.put o.dst v') w') : if Region.wanted o (yielded ops a.tmps) = true then Oper.wp P o a w K Q else E := by
  subst hP
  have hw : Region.wanted o (yielded ops a.tmps) = true := by simp [Region.wanted, hgd]
  rw [if_pos hw]
  obtain ⟨v', w', h1, h2, h3, h4⟩ := run_append_rats2 (w := w) o.type hown hY hA hnm hbase
  exact Go.Lib.wp_append_run w s x _ _ ho v _ hs hx v' w' h1 (h v' w' h2 h3 h4)
end
theorem RowAt.grown {w w' : World} {ad : Addr} {n : Nat} {X : Nat → RatD} {row : Option Nat} (h : RowAt w (some ad) n X) (hg : w.grownBy w' row) (hne : some ad.block ≠ row) : RowAt w' (some ad) n X := fun i hi => by
  obtain ⟨ad', e, ha⟩ := h i hi
  injection e with e
  subst e
  refine ⟨ad, rfl, ha.of_block (hg.block _ ha.1 (by rw [add_block]; exact hne))⟩
theorem ownR_app0 {w : World} {base m : Nat} {v : Value} {X0 X : Nat → RatD} (h : OwnR w base v (0 + m) (appR X0 0 X)) : OwnR w base v m X := by
  have := OwnR.congr h (Y := X) (fun i hi => by have := appR_ge X0 0 X i; rw [Nat.zero_add] at this; exact this)
  rw [Nat.zero_add] at this
  exact this
theorem ownR_empty_at (w : World) (g : Nat) (hg : g = w.heap.size) (X : Nat → RatD) : OwnR (w.alloc (.cells #[] 27)) g (.slice (some ⟨g, 0, none⟩) 0 0) 0 X := hg ▸ ownR_empty w X
/-- Values of one cell in a block of one's own. -/
def OwnV (w : World) (base : Nat) (t : TypeId) (v : Value) (m : Nat) (r : Nat → Value) : Prop := OwnN w base t 1 v m ((List.range m).map r)
/-- No slice lies in a block. -/
def NoSl (w : World) (g : Nat) : Prop := ∀ i A n c, w.cell? ⟨g, i, none⟩ ≠ some (.slice A n c)
section
variable {w w' : World} {base m g c : Nat} {t : TypeId} {v : Value} {r : Nat → Value}
theorem OwnV.below (h : OwnV w base t v m r) (hb : Below w.heap.size w w') : OwnV w' base t v m r := OwnN.below h hb
theorem OwnV.at_ (h : OwnV w base t (.slice (some ⟨g, 0, none⟩) m c) m r) {i : Nat} (hi : i < m) : w.cell? ⟨g, i, none⟩ = some (r i) := by
  rw [OwnN.cellAt h i (by omega)]
  simp [hi]
theorem OwnV.set1 (h : OwnV w base t (.slice (some ⟨g, 0, none⟩) m c) m r) {i : Nat} (hi : i < m) {u : Value} (hu : Nu u) {W : World} (hW : W = w.setCell ⟨g, i, none⟩ u) :
    OwnV W base t (.slice (some ⟨g, 0, none⟩) m c) m (updR r i u) ∧ Fz base t w W := by
  subst hW
  unfold OwnV at *
  have h1 := OwnN.stored h i u hu
  refine ⟨?_, h1.2⟩
  have e : ((List.range m).map r).set i u = (List.range m).map (updR r i u) := by
    apply List.ext_getElem?
    intro j
    by_cases hj : j = i
    · subst hj
      simp [hi, updR_at]
    · rw [List.getElem?_set_ne (fun e => hj e.symm)]
      by_cases hjm : j < m
      · simp [hjm, updR_ne _ _ hj]
      · simp [hjm]
  rw [← e]
  exact h1.1
theorem OwnV.noSl (h : OwnV w base t (.slice (some ⟨g, 0, none⟩) m m) m r) (hr : ∀ i, i < m → ∀ A k c, r i ≠ .slice A k c) : NoSl w g := by
  rcases h.2 with ⟨h0, _⟩ | ⟨g', cap', cur, h1, h2, h3, h4, h5, h6, h7, h8⟩
  · simp at h0
  · simp only [Value.slice.injEq, Option.some.injEq, Addr.mk.injEq, and_true, true_and] at h1
    obtain ⟨rfl, rfl⟩ := h1
    intro i A k c e
    rw [h3.cell i] at e
    have hi := (Array.getElem?_eq_some_iff.1 e).1
    rw [h6, Nat.mul_one] at hi
    have this : cur.toList[i]? = some (.slice A k c) := by rw [Array.getElem?_toList]; exact e
    have h7' : cur.toList = (List.range m).map r := by rw [← h7, List.take_of_length_le (by simp [h6])]
    rw [h7'] at this
    simp [hi] at this
    exact hr i hi A k c this
theorem RatAt.setNS {a : Addr} {x : RatD} (h : RatAt w a x) (hg : NoSl w g) (i : Nat) (u : Value) : RatAt (w.setCell ⟨g, i, none⟩ u) a x := by
  obtain ⟨h0, h1, h2, h3, h4⟩ := h
  have hne : g ≠ a.block := fun e => hg (a.off + 1) _ _ _ (by rw [e]; exact h2)
  refine ⟨by simpa [World.setCell] using h0, ?_, ?_, ?_, ?_⟩
  · rw [World.cell?_setCell_far _ _ _ _ hne]; exact h1
  · rw [World.cell?_setCell_far _ _ _ _ hne]; exact h2
  · rw [World.cell?_setCell_far _ _ _ _ hne]; exact h3
  · rw [World.cell?_setCell_far _ _ _ _ hne]; exact h4
theorem RowQ.setNS {p : Bool} {k n : Nat} {f : Nat → Rat} (h : RowQ p k w v n f) (hg : NoSl w g) (i : Nat) (u : Value) (hk : Kp w (w.setCell ⟨g, i, none⟩ u)) : RowQ p k (w.setCell ⟨g, i, none⟩ u) v n f := by
  obtain ⟨A, c, X, h0, h1, h2, h3, h4⟩ := h
  refine ⟨A, c, X, h0, h1, h2, fun j hj => ?_, fun j hj => (h4 j hj).kp hk⟩
  obtain ⟨ad, e, ha⟩ := h3 j hj
  exact ⟨ad, e, ha.setNS hg i u⟩
theorem TabQ.setNS {p : Bool} {k : Nat} {L : Nat → Nat} {F : Nat → Nat → Rat} (h : TabQ p k w v m L F) (hg : NoSl w g) (i : Nat) (u : Value) (hk : Kp w (w.setCell ⟨g, i, none⟩ u)) : TabQ p k (w.setCell ⟨g, i, none⟩ u) v m L F := by
  obtain ⟨A, c, h0, h1, h2, h3⟩ := h
  refine ⟨A, c, h0, h1, h2, fun j hj => ?_⟩
  obtain ⟨ad, r, e, h4, h5, h6⟩ := h3 j hj
  obtain ⟨A', c', rfl, _⟩ := h6.len
  have hne : g ≠ (ad.add j).block := fun e => by
    have hs : (ad.add j).spot = none := by
      cases hsp : (ad.add j).spot with
      | none => rfl
      | some s =>
        unfold World.cell? at h5
        split at h5
        · rw [hsp] at h5; simp at h5
        · cases h5
    refine hg (ad.add j).off A' (L j) c' ?_
    rw [← h5, e]
    congr 1
    cases hq : ad.add j with
    | mk b o s => rw [hq] at hs; simp at hs; subst hs; rfl
  exact ⟨ad, _, e, by simpa [World.setCell] using h4, (World.cell?_setCell_far _ _ _ _ hne).trans h5, h6.setNS hg i u hk⟩
end
section
variable {P : Program} {w : World} {ops : Array Oper} {rest : List Oper} {o : Oper} {a : Act} {Q : Exit → Act → World → Prop}
theorem wpList_make_vals (hg : o.guard = none) (l c : Operand) (t : TypeId) (hop : o.op = Op.makeSlice t l c) (base : Nat) (e : TypeId) (z : Value) (bytes : Nat) (ht : P.underlying t = some (.slice e)) (hinfo : (P.info? e).map (fun i => (i.zero, i.size, i.bytes)) = some (some z, 1, bytes)) (hz1 : z.cells = #[z]) (hzn : Nu z)
    (kl kc : IntKind) (L C : Int) (n : Nat) (hl : a.eval l = .int kl L) (hc : a.eval c = .int kc C) (hL : L = (n : Int)) (hC : C = (n : Int)) (hn : n ≤ 1000000) (hb : bytes ≤ 64) (hbase : base ≤ w.heap.size)
    (hK : ∀ w', OwnV w' base e (.slice (some ⟨w.heap.size, 0, none⟩) n n) n (fun _ => z) → Below w.heap.size w w' → w'.heap.size = w.heap.size + 1 → wpList P ops Q rest (a.put o.dst (.slice (some ⟨w.heap.size, 0, none⟩) n n)) w') :
    wpList P ops Q (o :: rest) a w := by
  refine wpList_plain hg fun K hK' => ?_
  subst hL
  subst hC
  have hbn : bytes * n ≤ 64 * 1000000 := Nat.mul_le_mul hb hn
  obtain ⟨w', hrun, h1, h2, h3⟩ := run_make_ownN (P := P) (w := w) base t e z 1 bytes ht hinfo (by rw [hz1]; rfl) (by omega) (fun u hu => by rw [hz1] at hu; simp at hu; subst hu; exact hzn) kl kc n (by omega) (by simp only [maxLen]; omega) hbase
  unfold Oper.wp
  simp [execOp, hop, hl, hc, hrun, Result.andThen]
  refine hK' _ _ (hK _ ?_ h2 h3)
  have e : (madeCells z.cells (n * 1)).toList = (List.range n).map (fun _ => z) := by
    rw [hz1, toList_madeCells_one, Nat.mul_one]
    apply List.ext_getElem?
    intro j
    by_cases hj : j < n <;> simp [hj]
  unfold OwnV
  rw [← e]
  exact h1
end
theorem int_info : (Tryz.prog.info? 3).map (fun i => (i.zero, i.size, i.bytes)) = some (some (.int .i64 0), 1, 8) := by kernel_rfl
theorem bool_info : (Tryz.prog.info? 4).map (fun i => (i.zero, i.size, i.bytes)) = some (some (.bool false), 1, 1) := by kernel_rfl
end Go.Proofs.YtebdmidghidaeaaGreat
