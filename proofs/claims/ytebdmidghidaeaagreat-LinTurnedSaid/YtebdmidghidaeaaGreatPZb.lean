/- What rows and tables of fractions that came in read as. -/
import Derived.Test.YtebdmidghidaeaaGreatPYr
import Derived.ProofKit
import Derived.OpenShut
import Derived.Lib.SmallJoins
import Derived.Test.YtebdmidghidaeaaGreatPYs
import Derived.Maps.AppendAt
namespace Go.Proofs.YtebdmidghidaeaaGreat
open Go.ChangeShapes Go.WideShapes Go.ChangeAt Go.RowKit
set_option linter.unusedSimpArgs false
set_option linter.unusedVariables false
set_option maxRecDepth 100000

theorem cellsRow_ : Tryz.prog.cellsOf 22 = 1 := by kernel_rfl
theorem adr_add (ad : Addr) (j : Nat) (h : j ≠ 0) : ad.add j = ⟨ad.block, ad.off + j, none⟩ := by
  unfold Addr.add
  rw [if_neg h]
set_option maxRecDepth 100000 in
theorem rrow_trod {H : Type} {enc : TypeId × Value → H} {W : World} {base n : Nat} {held : Bool} {v : Value} {y : DataW H × List MemPlace} (hf : DataW.trod enc Tryz.prog W base (fun _ => true) held n 22 [v] = some y) :
    ∃ (len : Nat) (X : Nat → RatD) (q : Nat → Rat), RowR W v len X q := by
  obtain ⟨d, p⟩ := y
  rcases DataW.trod_slice Tryz.underlying22 hf with ⟨hcs, _⟩ | ⟨a, l, c, elems, rest, n, _, hcs, _, hb, hl, hm, hlen, hel, _⟩
  · simp at hcs
    subst hcs
    exact ⟨0, fun _ => ratZ, fun _ => 0, none, 0, rfl, ⟨Nat.le_refl _, fun _ => rfl⟩, by omega, fun i hi => absurd hi (by omega), fun i hi => absurd hi (by omega)⟩
  · simp at hcs
    subst hcs
    have each : ∀ i, ∃ t : RatD × Rat, i < l → RatAt W (a.add (i * 4)) t.1 ∧ (t.1.n ≤ 1 → t.1.n' ≤ 1 → LimQ 1 W t.1.val t.2) := fun i => by
      by_cases hi : i < l
      · have he := hel i hi
        obtain ⟨y, hy⟩ : ∃ y, elems[i]? = some y := ⟨elems[i], List.getElem?_eq_getElem (by omega)⟩
        rw [hy, Option.bind_eq_some_iff, cellsR_] at he
        obtain ⟨cs, hc, ht⟩ := he
        have hblk := World.cells?_block hc (by omega)
        obtain ⟨_, hcl, hcc⟩ := World.cells?_some hc
        obtain ⟨c0, c1, c2, c3, rfl⟩ : ∃ c0 c1 c2 c3, cs = [c0, c1, c2, c3] := by
          match cs, hcl with
          | [c0, c1, c2, c3], _ => exact ⟨c0, c1, c2, c3, rfl⟩
        have q0 := hcc 0 (by omega)
        have q1 := hcc 1 (by omega)
        have q2 := hcc 2 (by omega)
        have q3 := hcc 3 (by omega)
        obtain ⟨y0, y1, m, _, _, h0, h1⟩ := trod_struct2 Tryz.underlying27 ht
        simp only [cellsRI_, List.drop_zero, List.drop_succ_cons, List.take_succ_cons, List.take_zero] at h0 h1
        obtain ⟨b, s, l', c', X, rfl, rfl, hX⟩ := part_open h0
        obtain ⟨b', s', l'', c'', Y, rfl, rfl, hY⟩ := part_open h1
        refine ⟨(⟨b, s, l', c', b', s', l'', c''⟩, ratOf X Y), fun _ => ⟨⟨hblk, ?_, ?_, ?_, ?_⟩, fun g g' => ⟨X, Y, limR_mk (hX.more g) (hY.more g'), rfl⟩⟩⟩
        · have : (a.add (i * 4)).add 0 = a.add (i * 4) := rfl
          rw [this] at q0
          exact q0
        · rw [adr_add _ 1 (by omega)] at q1; exact q1
        · rw [adr_add _ 2 (by omega)] at q2; exact q2
        · rw [adr_add _ 3 (by omega)] at q3; exact q3
      · exact ⟨(ratZ, 0), fun h => absurd h hi⟩
    obtain ⟨g, hg⟩ := Classical.axiomOfChoice each
    exact ⟨l, fun i => (g i).1, fun i => (g i).2, some a, c, rfl, ⟨hl, fun e => by cases e⟩, by simp only [maxLen] at hm; omega, fun i hi => ⟨a, rfl, (hg i hi).1⟩, fun i hi => (hg i hi).2⟩
theorem rrow_open {H : Type} {enc : TypeId × Value → H} {W : World} {base b0 : Nat} {held : Bool} {r : Reach} {v : Value} {d : DataW H} {p : List MemPlace} (hv : Value.okWide Tryz.prog W r b0 22 v) (h : DataW.Trod enc Tryz.prog W base (fun _ => true) held 22 v d p) :
    ∃ (A : Option Addr) (len cap : Nat) (X : Nat → RatD) (q : Nat → Rat), v = .slice A len cap ∧ RowR W (.slice A len cap) len X q := by
  obtain ⟨A, len, cap, rfl⟩ := okWide_slice Tryz.underlying22 hv
  obtain ⟨fuel, hf⟩ := h
  have hf : DataW.trod enc Tryz.prog W base (fun _ => true) held fuel 22 [Value.slice A len cap] = some (d, p) := by simpa [Value.cells] using hf
  obtain ⟨n, X, q, h⟩ := rrow_trod hf
  obtain ⟨A', c', e, _⟩ := id h
  injection e with _ e _
  subst e
  exact ⟨A, len, cap, X, q, rfl, h⟩
set_option maxRecDepth 100000 in
theorem rtab_open {H : Type} {enc : TypeId × Value → H} {W : World} {base b0 : Nat} {held : Bool} {r : Reach} {v : Value} {d : DataW H} {p : List MemPlace} (hv : Value.okWide Tryz.prog W r b0 37 v) (h : DataW.Trod enc Tryz.prog W base (fun _ => true) held 37 v d p) :
    ∃ (A : Option Addr) (len cap : Nat) (Ln : Nat → Nat) (X : Nat → Nat → RatD) (F : Nat → Nat → Rat), v = .slice A len cap ∧ TabR W (.slice A len cap) len Ln X F := by
  obtain ⟨A, len, cap, rfl⟩ := okWide_slice Tryz.underlying37 hv
  obtain ⟨fuel, hf⟩ := h
  have hf : DataW.trod enc Tryz.prog W base (fun _ => true) held fuel 37 [Value.slice A len cap] = some (d, p) := by simpa [Value.cells] using hf
  rcases DataW.trod_slice Tryz.underlying37 hf with ⟨hcs, _⟩ | ⟨a, l, k, elems, rest, n, _, hcs, _, hb, hl, hm, hlen, hel, _⟩
  · simp at hcs
    obtain ⟨rfl, rfl, rfl⟩ := hcs
    exact ⟨none, 0, 0, fun _ => 0, fun _ _ => ratZ, fun _ _ => 0, rfl, none, 0, rfl, ⟨Nat.le_refl _, fun _ => rfl⟩, by omega, fun i hi => absurd hi (by omega)⟩
  · simp at hcs
    obtain ⟨rfl, rfl, rfl⟩ := hcs
    have each : ∀ i, ∃ t : Value × Nat × (Nat → RatD) × (Nat → Rat), i < len → a.block < W.heap.size ∧ W.cell? (a.add i) = some t.1 ∧ RowR W t.1 t.2.1 t.2.2.1 t.2.2.2 := fun i => by
      by_cases hi : i < len
      · have he := hel i hi
        obtain ⟨y, hy⟩ : ∃ y, elems[i]? = some y := ⟨elems[i], List.getElem?_eq_getElem (by omega)⟩
        rw [hy, Option.bind_eq_some_iff, cellsRow_] at he
        obtain ⟨cs, hc, ht⟩ := he
        have hblk := World.cells?_block hc (by omega)
        rw [add_block] at hblk
        obtain ⟨_, hcl, hcc⟩ := World.cells?_some hc
        obtain ⟨c0, rfl⟩ : ∃ c0, cs = [c0] := by
          match cs, hcl with
          | [c0], _ => exact ⟨c0, rfl⟩
        have q0 := hcc 0 (by omega)
        obtain ⟨n2, X2, q2, h2⟩ := rrow_trod ht
        have e00 : (a.add (i * 1)).add 0 = a.add i := by rw [Nat.mul_one]; rfl
        rw [e00] at q0
        exact ⟨(c0, n2, X2, q2), fun _ => ⟨hblk, q0, h2⟩⟩
      · exact ⟨(.bool false, 0, fun _ => ratZ, fun _ => 0), fun h => absurd h hi⟩
    obtain ⟨g, hg⟩ := Classical.axiomOfChoice each
    exact ⟨some a, len, cap, fun i => (g i).2.1, fun i => (g i).2.2.1, fun i => (g i).2.2.2, rfl, some a, cap, rfl, ⟨hl, fun e => by cases e⟩, by simp only [maxLen] at hm; omega, fun i hi => ⟨a, (g i).1, rfl, (hg i hi).1, (hg i hi).2.1, (hg i hi).2.2⟩⟩
end Go.Proofs.YtebdmidghidaeaaGreat

/- LinPivots. -/
namespace Go.Proofs.YtebdmidghidaeaaGreat
open Go.RowKit
attribute [local go_sem ↓] Go.wp_at_zero Go.wp_at_succ
set_option linter.unusedVariables false
set_option linter.unusedSimpArgs false

theorem pivOk_of {m : Nat} {Ln : Nat → Nat} {F : Nat → Nat → Rat} {r c : Int} {rn cn : Nat} (h1 : r = (rn : Nat)) (h2 : c = (cn : Nat)) (h3 : rn < m) (h4 : cn < Ln rn) (h5 : ∀ i, i < m → Ln i = Ln rn) (h6 : F rn cn ≠ 0) : PivOk m Ln F r c := ⟨rn, cn, h1, h2, h3, h4, h5, h6⟩

end Go.Proofs.YtebdmidghidaeaaGreat

/- LinScaled. -/
namespace Go.Proofs.YtebdmidghidaeaaGreat
open Go.RowKit
attribute [local go_sem ↓] Go.wp_at_zero Go.wp_at_succ
set_option linter.unusedVariables false
set_option linter.unusedSimpArgs false

theorem EQ.lq {p : Bool} {k : Nat} {w : World} {v : Value} {q : Rat} (h : EQ p k w v q) : LimQ k w v q := h.2
theorem OwnT.tabQq {p : Bool} {k base m : Nat} {w : World} {v : Value} {r : Nat → Value} {L : Nat → Nat} {F : Nat → Nat → Rat} (h : OwnT w base v m r) (hm : m ≤ 1000000) (hr : ∀ i, i < m → RowQ p k w (r i) (L i) (F i)) : TabQ p k w v m L F := by
  rcases h.2 with ⟨rfl, rfl⟩ | ⟨g, cap, cur, rfl, h2, h3, h4, _⟩
  · exact ⟨none, 0, rfl, ⟨Nat.le_refl _, fun _ => rfl⟩, by omega, fun i hi => absurd hi (by omega)⟩
  · refine ⟨some ⟨g, 0, none⟩, cap, rfl, ⟨h4, fun e => by cases e⟩, hm, fun i hi => ⟨_, _, rfl, h3.lt, ?_, hr i hi⟩⟩
    rw [add_mk, Nat.zero_add]; exact OwnT.at_ h hi
theorem TabQ.rows_ {p : Bool} {k m : Nat} {w : World} {A : Option Addr} {c : Nat} {L : Nat → Nat} {F : Nat → Nat → Rat} (h : TabQ p k w (.slice A m c) m L F) : ∃ r : Nat → Value, (∀ i, i < m → ∃ ad, A = some ad ∧ w.cell? (ad.add i) = some (r i)) ∧ ∀ i, i < m → RowQ p k w (r i) (L i) (F i) := by
  obtain ⟨A', c', e, h1, h2, h3⟩ := h
  injection e with e _ e'
  subst e
  have each : ∀ i, ∃ r : Value, i < m → (∃ ad, A = some ad ∧ w.cell? (ad.add i) = some r) ∧ RowQ p k w r (L i) (F i) := fun i => by
    by_cases hi : i < m
    · obtain ⟨ad, r, e, _, h5, h6⟩ := h3 i hi
      exact ⟨r, fun _ => ⟨⟨ad, e, h5⟩, h6⟩⟩
    · exact ⟨.bool false, fun h => absurd h hi⟩
  obtain ⟨r, hr⟩ := Classical.axiomOfChoice each
  exact ⟨r, fun i hi => (hr i hi).1, fun i hi => (hr i hi).2⟩
theorem RowQ.rows_ {p : Bool} {k n : Nat} {w : World} {A : Option Addr} {c : Nat} {f : Nat → Rat} (h : RowQ p k w (.slice A n c) n f) : ∃ X : Nat → RatD, RowAt w A n X ∧ (A = none → n = 0 ∧ c = 0) ∧ ∀ i, i < n → EQ p k w (X i).val (f i) := by
  obtain ⟨A', c', X, e, h1, h2, h3, h4, h5⟩ := h.open_
  injection e with e _ e'
  subst e
  subst e'
  exact ⟨X, h4, h3, h5⟩
theorem szF_le1 {m : Nat} (h : m ≤ 4) : szF 1 m ≤ 341 := Nat.le_trans (szF_mono 1 h) (by decide)

end Go.Proofs.YtebdmidghidaeaaGreat

/- More on rows of one's own: what append leaves of other blocks; rows of other values; tables under stores into blocks that hold no slice. -/
namespace Go.Proofs.YtebdmidghidaeaaGreat
open Go.RowKit
set_option linter.unusedSimpArgs false
set_option linter.unusedVariables false
set_option maxRecDepth 100000

theorem RowAt.cells_ {w : World} {ad : Addr} {m : Nat} {Y : Nat → RatD} (hY : RowAt w (some ad) m Y) : ∀ j u, (rowR Y m)[j]? = some u → w.cell? (ad.add j) = some u := fun j u hu => by
  have hj : j < m * 4 := by
    rcases Nat.lt_or_ge j (m * 4) with h1 | h1
    · exact h1
    · rw [List.getElem?_eq_none (by rw [rowR_len]; exact h1)] at hu; cases hu
  have e : j = j / 4 * 4 + j % 4 := by omega
  have hi : j / 4 < m := by omega
  have hr : j % 4 < 4 := by omega
  generalize j / 4 = q at *
  generalize j % 4 = r at *
  subst e
  rw [rowR_get Y hr m hi] at hu
  obtain ⟨ad', e', p0, p1, p2, p3, p4⟩ := hY q hi
  injection e' with e'
  subst e'
  have hcl : ∀ j, j ≠ 0 → (⟨(ad.add (q * 4)).block, (ad.add (q * 4)).off + j, none⟩ : Addr) = (ad.add (q * 4)).add j := fun j hj => by
    generalize ad.add (q * 4) = b
    unfold Addr.add
    rw [if_neg hj]
  rw [← add_add]
  have : r = 0 ∨ r = 1 ∨ r = 2 ∨ r = 3 := by omega
  rcases this with rfl | rfl | rfl | rfl <;> simp [ratL] at hu <;> subst hu
  · exact p1
  · rw [← hcl 1 (by omega)]; exact p2
  · rw [← hcl 2 (by omega)]; exact p3
  · rw [← hcl 3 (by omega)]; exact p4
section
variable {w : World}
variable {P : Program} {ops : Array Oper} {o : Oper} {a : Act} {K : Act → World → Prop} {Q : Exit → Act → World → Prop} {E : Prop}
end
section
variable {w w' : World} {base m g c : Nat} {t : TypeId} {v : Value} {r : Nat → Value}
end
section
variable {P : Program} {w : World} {ops : Array Oper} {rest : List Oper} {o : Oper} {a : Act} {Q : Exit → Act → World → Prop}
end
end Go.Proofs.YtebdmidghidaeaaGreat

/- Rows of one's own, made one beside the other: append leaves what lies in other blocks. -/
namespace Go.Proofs.YtebdmidghidaeaaGreat
open Go.RowKit
set_option linter.unusedSimpArgs false
set_option linter.unusedVariables false
set_option maxRecDepth 100000

/-- What append to v does to memory. -/
def Grew (w w' : World) (v v' : Value) : Prop := w.grownBy w' v.ownBlock ∧ (v'.ownBlock = v.ownBlock ∨ v'.ownBlock = some w.heap.size)
/-- Two rows lie in blocks of their own. -/
def Apart (v u : Value) : Prop := ∀ g, v.ownBlock = some g → u.ownBlock ≠ some g
section
variable {w w' : World} {v v' u : Value} {base z n m k : Nat} {t : TypeId} {xs : List Value} {p : Bool} {f : Nat → Rat}
theorem Apart.symm (h : Apart v u) : Apart u v := fun g h1 h2 => h g h2 h1
theorem Apart.nil : Apart (.slice none 0 0) u := fun g h => by cases h
theorem OwnN.inside (h : OwnN w base t z u n xs) {g : Nat} (e : u.ownBlock = some g) : base ≤ g ∧ g < w.heap.size := by
  rcases h.2 with ⟨rfl, _⟩ | ⟨g', cap, cur, rfl, h2, h3, _⟩
  · cases e
  · injection e with e
    subst e
    exact ⟨h2, h3.lt⟩
theorem RowT.inside (h : RowT p k w u n f) {g : Nat} (e : u.ownBlock = some g) : g < w.heap.size := by
  obtain ⟨A, c, X, rfl, h1, h2, h3, h4, h5⟩ := h
  cases A with
  | none => cases e
  | some a =>
    injection e with e
    subst e
    obtain ⟨cs, m, hc⟩ := h5 a rfl
    exact (Array.getElem?_eq_some_iff.1 hc).1
theorem Apart.grew (h : Apart v u) (hg : Grew w w' v v') (hu : ∀ g, u.ownBlock = some g → g < w.heap.size) : Apart v' u := fun g h1 h2 => by
  rcases hg.2 with e | e
  · exact h g (e ▸ h1) h2
  · rw [e] at h1
    injection h1 with h1
    have := hu g h2
    omega
theorem Apart.late (hv : ∀ g, v.ownBlock = some g → g < base) (hu : ∀ g, u.ownBlock = some g → base ≤ g) : Apart v u := fun g h1 h2 => by
  have := hv g h1
  have := hu g h2
  omega
theorem OwnN.grew (h : OwnN w base t z u n xs) (hg : Grew w w' v v') (ha : Apart v u) : OwnN w' base t z u n xs := by
  refine ⟨h.1, ?_⟩
  rcases h.2 with h | ⟨g, cap, cur, rfl, h2, h3, h4⟩
  · exact .inl h
  · refine .inr ⟨g, cap, cur, rfl, h2, ?_, h4⟩
    show w'.heap[g]? = _
    rw [hg.1.block g h3.lt (fun e => ha g e.symm rfl)]
    exact h3
theorem RowT.grew (h : RowT p k w u n f) (hg : Grew w w' v v') (ha : Apart v u) (hk : Kp w w') : RowT p k w' u n f := by
  have hin := fun g => h.inside (g := g)
  obtain ⟨A, c, X, rfl, h1, h2, h3, h4, h5⟩ := h
  have hb : ∀ a, A = some a → w'.heap[a.block]? = w.heap[a.block]? := fun a e => by
    subst e
    exact hg.1.block _ (hin _ rfl) (fun e => ha _ e.symm rfl)
  refine ⟨A, c, X, rfl, h1, h2, fun i hi => ?_, fun i hi => (h4 i hi).kp hk, fun a e => ?_⟩
  · obtain ⟨ad, e, ha⟩ := h3 i hi
    exact ⟨ad, e, ha.of_block (by rw [add_block]; exact hb ad e)⟩
  · obtain ⟨cs, m, hc⟩ := h5 a e
    exact ⟨cs, m, (hb a e).trans hc⟩
variable {P : Program} {Q : Exit → Act → World → Prop} {ops : Array Oper} {rest : List Oper} {o : Oper} {a : Act}
theorem wpList_append_rats3 (hP : P = Tryz.prog) (hgd : o.guard = none) (s x : Operand) (ho : o.op = .call { callee := .builtin .append, args := #[s, x], argTypes := #[22, 22] })
    {c : Nat} {X Y : Nat → RatD} {A : Option Addr} (hs : a.eval s = v) (hown : OwnR w base v n X) (hx : a.eval x = .slice A m c) (hY : RowAt w A m Y) (hA : A = none → m = 0 ∧ c = 0) (hnm : n + m ≤ 1000000) (hbase : base ≤ w.heap.size)
    (h : ∀ v' w', OwnR w' base v' (n + m) (appR X n Y) → Fz base 27 w w' → Grew w w' v v' → wpList P ops Q rest (a.put o.dst v') w') : wpList P ops Q (o :: rest) a w := by
  subst hP
  obtain ⟨v', w', h1, h2, h3⟩ := run_append_rats (w := w) o.type hown hY hA hnm hbase
  have hg : Grew w w' v v' := by
    obtain ⟨i, hi, hz, hs', hby⟩ := info_parts rat_info
    cases A with
    | none =>
      obtain ⟨rfl, rfl⟩ := hA rfl
      have hr := run_append_owned_none (P := Tryz.prog) (w := w) base 22 o.type 27 i 4 Tryz.underlying22 hi v n _ (OwnN.own hown)
      rw [h1] at hr
      injection hr with e1 e2
      subst e1
      subst e2
      exact ⟨⟨rfl, rfl, rfl, Nat.le_refl _, fun _ _ _ => rfl⟩, .inl rfl⟩
    | some ad =>
      obtain ⟨v2, w2, hr, _, hg, _, hb⟩ := run_append_own_at (P := Tryz.prog) w base 22 o.type 27 i ratZ.val 4 64 Tryz.underlying22 hi hz hs' hby rfl (by omega) v n _ (OwnN.own hown) ad m c (rowR Y m) (rowR_len Y m) hY.cells_ (fun u hu => by obtain ⟨i, h⟩ := rowR_mem hu; exact ratL_one _ u h) (by simp only [maxLen]; omega) (by omega) hbase
      rw [h1] at hr
      injection hr with e1 e2
      subst e1
      subst e2
      exact ⟨hg, hb⟩
  exact Go.Lib.wpList_append_run w hgd s x _ _ ho v _ hs hx v' w' h1 (h v' w' h2 h3 hg)
theorem wpList_append_rows3 (hP : P = Tryz.prog) (hgd : o.guard = none) (s x : Operand) (ho : o.op = .call { callee := .builtin .append, args := #[s, x], argTypes := #[37, 37] })
    {c : Nat} {r y : Nat → Value} {A : Option Addr} (hs : a.eval s = v) (hown : OwnT w base v n r) (hx : a.eval x = .slice A m c) (ht : ∀ i, i < m → ∃ ad, A = some ad ∧ w.cell? (ad.add i) = some (y i)) (hsl : ∀ i, i < m → ∃ A n c, y i = .slice A n c) (hA : A = none → m = 0 ∧ c = 0) (hnm : n + m ≤ 1000000) (hbase : base ≤ w.heap.size)
    (h : ∀ v' w', OwnT w' base v' (n + m) (appR r n y) → Fz base 22 w w' → Grew w w' v v' → wpList P ops Q rest (a.put o.dst v') w') : wpList P ops Q (o :: rest) a w := by
  subst hP
  obtain ⟨v', w', h1, h2, h3⟩ := run_append_rows (w := w) o.type hown ht hsl hA hnm hbase
  have hg : Grew w w' v v' := by
    obtain ⟨i, hi, hz, hs', hby⟩ := info_parts rrow_info
    cases A with
    | none =>
      obtain ⟨rfl, rfl⟩ := hA rfl
      have hr := run_append_owned_none (P := Tryz.prog) (w := w) base 37 o.type 22 i 1 Tryz.underlying37 hi v n _ (OwnN.own hown)
      rw [h1] at hr
      injection hr with e1 e2
      subst e1
      subst e2
      exact ⟨⟨rfl, rfl, rfl, Nat.le_refl _, fun _ _ _ => rfl⟩, .inl rfl⟩
    | some ad =>
      obtain ⟨v2, w2, hr, _, hg, _, hb⟩ := run_append_own_at (P := Tryz.prog) w base 37 o.type 22 i (.slice none 0 0) 1 24 Tryz.underlying37 hi hz hs' hby rfl (by omega) v n _ (OwnN.own hown) ad m c ((List.range m).map y) (by simp) (fun j u hu => by
        have hj : j < m := by
          rcases Nat.lt_or_ge j m with h1 | h1
          · exact h1
          · rw [List.getElem?_eq_none (by simpa using h1)] at hu; cases hu
        simp [hj] at hu
        subst hu
        obtain ⟨ad', e', h⟩ := ht j hj
        injection e' with e'
        subst e'
        exact h) (fun u hu => by
          simp at hu
          obtain ⟨i, hi, rfl⟩ := hu
          obtain ⟨A, n, c, e⟩ := hsl i hi
          rw [e]; rfl) (by simp only [maxLen]; omega) (by omega) hbase
      rw [h1] at hr
      injection hr with e1 e2
      subst e1
      subst e2
      exact ⟨hg, hb⟩
  exact Go.Lib.wpList_append_run w hgd s x _ _ ho v _ hs hx v' w' h1 (h v' w' h2 h3 hg)
end
theorem appR_at {α : Type} (X : Nat → α) (i : Nat) (y : α) : appR X i (fun _ => y) i = y := by
  have := appR_ge X i (fun _ => y) 0
  rw [Nat.add_zero] at this
  exact this
end Go.Proofs.YtebdmidghidaeaaGreat
