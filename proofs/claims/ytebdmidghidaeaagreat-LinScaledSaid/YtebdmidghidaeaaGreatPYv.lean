/- What rows and tables of fractions that came in read as. -/
import Derived.Test.YtebdmidghidaeaaGreatPYq
import Derived.ProofKit
import Derived.OpenShut
import Derived.Lib.SmallJoins
import Derived.Test.YtebdmidghidaeaaGreatPYs
namespace Go.Proofs.YtebdmidghidaeaaGreat
open Go.ChangeShapes Go.WideShapes Go.ChangeAt Go.RowKit
set_option linter.unusedSimpArgs false
set_option linter.unusedVariables false
set_option maxRecDepth 100000

theorem cellsRow_ : Tryz.prog.cellsOf 22 = 1 := by kernel_rfl
theorem adr_add (ad : Addr) (j : Nat) (h : j ≠ 0) : ad.add j = ⟨ad.block, ad.off + j, none⟩ := by
  unfold Addr.add
  rw [if_neg h]
set_option maxRecDepth 100000 in
theorem rrow_trod {H : Type} {enc : TypeId × Value → H} {W : World} {base n : Nat} {held : Bool} {v : Value} {y : DataW H × List MemPlace} (hf : DataW.trod enc Tryz.prog W base (fun _ => true) held n 22 [v] = some y) :
    ∃ (len : Nat) (X : Nat → RatD) (q : Nat → Rat), RowR W v len X q := by
  obtain ⟨d, p⟩ := y
  rcases DataW.trod_slice Tryz.underlying22 hf with ⟨hcs, _⟩ | ⟨a, l, c, elems, rest, n, _, hcs, _, hb, hl, hm, hlen, hel, _⟩
  · simp at hcs
    subst hcs
    exact ⟨0, fun _ => ratZ, fun _ => 0, none, 0, rfl, ⟨Nat.le_refl _, fun _ => rfl⟩, by omega, fun i hi => absurd hi (by omega), fun i hi => absurd hi (by omega)⟩
  · simp at hcs
    subst hcs
    have each : ∀ i, ∃ t : RatD × Rat, i < l → RatAt W (a.add (i * 4)) t.1 ∧ (t.1.n ≤ 1 → t.1.n' ≤ 1 → LimQ 1 W t.1.val t.2) := fun i => by
      by_cases hi : i < l
      · have he := hel i hi
        obtain ⟨y, hy⟩ : ∃ y, elems[i]? = some y := ⟨elems[i], List.getElem?_eq_getElem (by omega)⟩
        rw [hy, Option.bind_eq_some_iff, cellsR_] at he
        obtain ⟨cs, hc, ht⟩ := he
        have hblk := World.cells?_block hc (by omega)
        obtain ⟨_, hcl, hcc⟩ := World.cells?_some hc
        obtain ⟨c0, c1, c2, c3, rfl⟩ : ∃ c0 c1 c2 c3, cs = [c0, c1, c2, c3] := by
          match cs, hcl with
          | [c0, c1, c2, c3], _ => exact ⟨c0, c1, c2, c3, rfl⟩
        have q0 := hcc 0 (by omega)
        have q1 := hcc 1 (by omega)
        have q2 := hcc 2 (by omega)
        have q3 := hcc 3 (by omega)
        obtain ⟨y0, y1, m, _, _, h0, h1⟩ := trod_struct2 Tryz.underlying27 ht
        simp only [cellsRI_, List.drop_zero, List.drop_succ_cons, List.take_succ_cons, List.take_zero] at h0 h1
        obtain ⟨b, s, l', c', X, rfl, rfl, hX⟩ := part_open h0
        obtain ⟨b', s', l'', c'', Y, rfl, rfl, hY⟩ := part_open h1
        refine ⟨(⟨b, s, l', c', b', s', l'', c''⟩, ratOf X Y), fun _ => ⟨⟨hblk, ?_, ?_, ?_, ?_⟩, fun g g' => ⟨X, Y, limR_mk (hX.more g) (hY.more g'), rfl⟩⟩⟩
        · have : (a.add (i * 4)).add 0 = a.add (i * 4) := rfl
          rw [this] at q0
          exact q0
        · rw [adr_add _ 1 (by omega)] at q1; exact q1
        · rw [adr_add _ 2 (by omega)] at q2; exact q2
        · rw [adr_add _ 3 (by omega)] at q3; exact q3
      · exact ⟨(ratZ, 0), fun h => absurd h hi⟩
    obtain ⟨g, hg⟩ := Classical.axiomOfChoice each
    exact ⟨l, fun i => (g i).1, fun i => (g i).2, some a, c, rfl, ⟨hl, fun e => by cases e⟩, by simp only [maxLen] at hm; omega, fun i hi => ⟨a, rfl, (hg i hi).1⟩, fun i hi => (hg i hi).2⟩
theorem rrow_open {H : Type} {enc : TypeId × Value → H} {W : World} {base b0 : Nat} {held : Bool} {r : Reach} {v : Value} {d : DataW H} {p : List MemPlace} (hv : Value.okWide Tryz.prog W r b0 22 v) (h : DataW.Trod enc Tryz.prog W base (fun _ => true) held 22 v d p) :
    ∃ (A : Option Addr) (len cap : Nat) (X : Nat → RatD) (q : Nat → Rat), v = .slice A len cap ∧ RowR W (.slice A len cap) len X q := by
  obtain ⟨A, len, cap, rfl⟩ := okWide_slice Tryz.underlying22 hv
  obtain ⟨fuel, hf⟩ := h
  have hf : DataW.trod enc Tryz.prog W base (fun _ => true) held fuel 22 [Value.slice A len cap] = some (d, p) := by simpa [Value.cells] using hf
  obtain ⟨n, X, q, h⟩ := rrow_trod hf
  obtain ⟨A', c', e, _⟩ := id h
  injection e with _ e _
  subst e
  exact ⟨A, len, cap, X, q, rfl, h⟩
set_option maxRecDepth 100000 in
theorem rtab_open {H : Type} {enc : TypeId × Value → H} {W : World} {base b0 : Nat} {held : Bool} {r : Reach} {v : Value} {d : DataW H} {p : List MemPlace} (hv : Value.okWide Tryz.prog W r b0 37 v) (h : DataW.Trod enc Tryz.prog W base (fun _ => true) held 37 v d p) :
    ∃ (A : Option Addr) (len cap : Nat) (Ln : Nat → Nat) (X : Nat → Nat → RatD) (F : Nat → Nat → Rat), v = .slice A len cap ∧ TabR W (.slice A len cap) len Ln X F := by
  obtain ⟨A, len, cap, rfl⟩ := okWide_slice Tryz.underlying37 hv
  obtain ⟨fuel, hf⟩ := h
  have hf : DataW.trod enc Tryz.prog W base (fun _ => true) held fuel 37 [Value.slice A len cap] = some (d, p) := by simpa [Value.cells] using hf
  rcases DataW.trod_slice Tryz.underlying37 hf with ⟨hcs, _⟩ | ⟨a, l, k, elems, rest, n, _, hcs, _, hb, hl, hm, hlen, hel, _⟩
  · simp at hcs
    obtain ⟨rfl, rfl, rfl⟩ := hcs
    exact ⟨none, 0, 0, fun _ => 0, fun _ _ => ratZ, fun _ _ => 0, rfl, none, 0, rfl, ⟨Nat.le_refl _, fun _ => rfl⟩, by omega, fun i hi => absurd hi (by omega)⟩
  · simp at hcs
    obtain ⟨rfl, rfl, rfl⟩ := hcs
    have each : ∀ i, ∃ t : Value × Nat × (Nat → RatD) × (Nat → Rat), i < len → a.block < W.heap.size ∧ W.cell? (a.add i) = some t.1 ∧ RowR W t.1 t.2.1 t.2.2.1 t.2.2.2 := fun i => by
      by_cases hi : i < len
      · have he := hel i hi
        obtain ⟨y, hy⟩ : ∃ y, elems[i]? = some y := ⟨elems[i], List.getElem?_eq_getElem (by omega)⟩
        rw [hy, Option.bind_eq_some_iff, cellsRow_] at he
        obtain ⟨cs, hc, ht⟩ := he
        have hblk := World.cells?_block hc (by omega)
        rw [add_block] at hblk
        obtain ⟨_, hcl, hcc⟩ := World.cells?_some hc
        obtain ⟨c0, rfl⟩ : ∃ c0, cs = [c0] := by
          match cs, hcl with
          | [c0], _ => exact ⟨c0, rfl⟩
        have q0 := hcc 0 (by omega)
        obtain ⟨n2, X2, q2, h2⟩ := rrow_trod ht
        have e00 : (a.add (i * 1)).add 0 = a.add i := by rw [Nat.mul_one]; rfl
        rw [e00] at q0
        exact ⟨(c0, n2, X2, q2), fun _ => ⟨hblk, q0, h2⟩⟩
      · exact ⟨(.bool false, 0, fun _ => ratZ, fun _ => 0), fun h => absurd h hi⟩
    obtain ⟨g, hg⟩ := Classical.axiomOfChoice each
    exact ⟨some a, len, cap, fun i => (g i).2.1, fun i => (g i).2.2.1, fun i => (g i).2.2.2, rfl, some a, cap, rfl, ⟨hl, fun e => by cases e⟩, by simp only [maxLen] at hm; omega, fun i hi => ⟨a, (g i).1, rfl, (hg i hi).1, (hg i hi).2.1, (hg i hi).2.2⟩⟩
end Go.Proofs.YtebdmidghidaeaaGreat

/- LinDots. -/
namespace Go.Proofs.YtebdmidghidaeaaGreat
open Go.RowKit
attribute [local go_sem ↓] Go.wp_at_zero Go.wp_at_succ
set_option linter.unusedVariables false
set_option linter.unusedSimpArgs false

theorem dotF_times (f g : Nat → Rat) (z : Rat) (n : Nat) : dotF (fun i => 0 + f i * z) g n = z * dotF f g n := by
  rw [dotF_sum, dotF_sum, Rat.mul_comm, ← sumF_mul]
  exact sumF_congr n fun k _ => by grind
theorem OwnR.zeros {w : World} {base n : Nat} {v : Value} (h : OwnR w base v n (fun _ => ratZ)) (hn : n ≤ 1000000) : RowQ false 1 w v n (fun _ => 0) :=
  (h.rowT (p := false) hn fun i hi => EQ.lim (limQ_zero (by omega))).rowQ

end Go.Proofs.YtebdmidghidaeaaGreat
