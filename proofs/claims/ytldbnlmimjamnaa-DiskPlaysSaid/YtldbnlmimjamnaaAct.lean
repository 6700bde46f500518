/- What a list of acts that came in reads as. -/
import Derived.Test.YtldbnlmimjamnaaDn
import Derived.ProofKit
import Derived.OpenShut
import Derived.Lib.SmallJoins
namespace Go.Proofs.Ytldbnlmimjamnaa
open Go.ChangeShapes Go.WideShapes Go.ChangeAt Go.RowKit

/-- An act's parts. -/
structure ActD where
  K : Int
  I : Int
  C : Nat
  B : Bool
  A : Option Addr
  n : Nat
  c : Nat
  f : Nat → Nat
/-- The act at an address. -/
def ActAt (w : World) (p : Addr) (a : ActD) : Prop :=
  p.block < w.heap.size ∧ w.cell? p = some (.int .i64 a.K) ∧ w.cell? (p.add 1) = some (.int .i64 a.I) ∧ w.cell? (p.add 2) = some (.int .u8 (a.C : Nat)) ∧ w.cell? (p.add 3) = some (.bool a.B) ∧ w.cell? (p.add 4) = some (.slice a.A a.n a.c) ∧
  -9223372036854775808 ≤ a.I ∧ a.I ≤ 9223372036854775807 ∧ a.C < 256 ∧ a.n ≤ a.c ∧ a.n ≤ 9223372036854775807 ∧ Rd .u8 w a.A a.n a.f ∧ (∀ j, j < a.n → a.f j < 256) ∧ -9223372036854775808 ≤ a.K ∧ a.K ≤ 9223372036854775807
def Acts (w : World) (A : Option Addr) (n : Nat) (X : Nat → ActD) : Prop := ∀ i, i < n → ∃ ad, A = some ad ∧ ActAt w (ad.add (i * 5)) (X i)
theorem add5 (p : Addr) (j : Nat) : (p.add j).block = p.block := add_block p j
theorem ActAt.below {w w' : World} {p : Addr} {a : ActD} (h : ActAt w p a) (hb : Below w.heap.size w w') : ActAt w' p a := by
  obtain ⟨h0, h1, h2, h3, h4, h5, h6, h7, h8, h9, h10, h11, h12, h13⟩ := h
  have k : ∀ j v, w.cell? (p.add j) = some v → w'.cell? (p.add j) = some v := fun j v hc => (hb.cell (p := p.add j) (by rw [add_block]; exact h0)).trans hc
  exact ⟨Nat.lt_of_lt_of_le h0 hb.size, (hb.cell h0).trans h1, k _ _ h2, k _ _ h3, k _ _ h4, k _ _ h5, h6, h7, h8, h9, h10, h11.below hb, h12, h13⟩
theorem Acts.below {w w' : World} {A : Option Addr} {n : Nat} {X : Nat → ActD} (h : Acts w A n X) (hb : Below w.heap.size w w') : Acts w' A n X := fun i hi => by
  obtain ⟨ad, e, ha⟩ := h i hi
  exact ⟨ad, e, ha.below hb⟩
theorem Acts.at_ {w : World} {ad : Addr} {n : Nat} {X : Nat → ActD} (h : Acts w (some ad) n X) {i : Nat} (hi : i < n) : ActAt w (ad.add (i * 5)) (X i) := by
  obtain ⟨ad', e, ha⟩ := h i hi
  injection e with e
  subst e
  exact ha
theorem cellsAct : Try.prog.cellsOf 33 = 5 := by kernel_rfl
theorem cellsInt : Try.prog.cellsOf 3 = 1 := by kernel_rfl
theorem cellsU8 : Try.prog.cellsOf 5 = 1 := by kernel_rfl
theorem cellsBool : Try.prog.cellsOf 4 = 1 := by kernel_rfl
theorem cellsRow : Try.prog.cellsOf 31 = 1 := by kernel_rfl
section
variable {P : Program} {H : Type} {enc : TypeId × Value → H} {w : World} {base : Nat} {spare : Nat → Bool} {held : Bool}
theorem trod_struct5 {t : TypeId} {f0 f1 f2 f3 f4 : Field} {fuel : Nat} {cs : List Value} {x : DataW H × List MemPlace} (ht : P.underlying t = some (.struct #[f0, f1, f2, f3, f4])) (h : DataW.trod enc P w base spare held fuel t cs = some x) :
    ∃ y0 y1 y2 y3 y4 n, DataW.trod enc P w base spare held n f0.type ((cs.drop f0.offset).take (P.cellsOf f0.type)) = some y0 ∧
      DataW.trod enc P w base spare held n f1.type ((cs.drop f1.offset).take (P.cellsOf f1.type)) = some y1 ∧ DataW.trod enc P w base spare held n f2.type ((cs.drop f2.offset).take (P.cellsOf f2.type)) = some y2 ∧
      DataW.trod enc P w base spare held n f3.type ((cs.drop f3.offset).take (P.cellsOf f3.type)) = some y3 ∧ DataW.trod enc P w base spare held n f4.type ((cs.drop f4.offset).take (P.cellsOf f4.type)) = some y4 := by
  obtain ⟨xs, n, _, rfl, hl, hlen, hf⟩ := DataW.trod_struct ht h
  match xs, hlen with
  | [y0, y1, y2, y3, y4], _ => exact ⟨y0, y1, y2, y3, y4, n, by simpa using hf 0 f0 rfl, by simpa using hf 1 f1 rfl, by simpa using hf 2 f2 rfl, by simpa using hf 3 f3 rfl, by simpa using hf 4 f4 rfl⟩
end
theorem bytes_of {w : World} {a : Option Addr} {len cap : Nat} {zs : List Int}
    (h : (a = none ∧ len = 0 ∧ cap = 0 ∧ zs = []) ∨ ∃ x, a = some x ∧ len ≤ cap ∧ cap ≤ maxLen ∧ zs.length = cap ∧ (∀ i, i < zs.length → w.cell? (x.add i) = some (.int .u8 (zs.getD i 0))) ∧ ∀ n ∈ zs, (Lit.int .u8 n).wf = true) :
    len ≤ cap ∧ len ≤ 9223372036854775807 ∧ ∃ f, Rd .u8 w a len f ∧ ∀ j, j < len → f j < 256 := by
  rcases h with ⟨rfl, rfl, rfl, rfl⟩ | ⟨x, rfl, hl, hm, hz, hcell, hwf⟩
  · exact ⟨Nat.le_refl _, by omega, fun _ => 0, Rd.zero, fun j hj => absurd hj (by omega)⟩
  · have hb : ∀ j, j < len → 0 ≤ zs.getD j 0 ∧ zs.getD j 0 < 256 := fun j hj => by
      have hjl : j < zs.length := by omega
      have hmem : zs.getD j 0 ∈ zs := by
        rw [List.getD, List.getElem?_eq_getElem hjl]; exact List.getElem_mem hjl
      have := hwf _ hmem
      generalize zs.getD j 0 = q at this ⊢
      simp [Lit.wf, IntKind.min, IntKind.max, IntKind.bits, IntKind.signed] at this
      omega
    refine ⟨hl, by simp only [maxLen] at hm; omega, fun j => (zs.getD j 0).toNat, fun j hj => ⟨x, rfl, ?_⟩, fun j hj => by
      have := hb j hj
      show (zs.getD j 0).toNat < 256
      generalize zs.getD j 0 = q at this ⊢
      omega⟩
    rw [hcell j (by omega), Int.toNat_of_nonneg (hb j hj).1]
set_option maxRecDepth 100000 in
theorem acts_open {H : Type} {enc : TypeId × Value → H} {W : World} {base b0 : Nat} {held : Bool} {r : Reach} {v : Value} {d : DataW H} {p : List MemPlace} (hv : Value.okWide Try.prog W r b0 22 v) (h : DataW.Trod enc Try.prog W base (fun _ => true) held 22 v d p) :
    ∃ (A : Option Addr) (len cap : Nat) (X : Nat → ActD), v = .slice A len cap ∧ len ≤ 9223372036854775807 ∧ Acts W A len X := by
  obtain ⟨A, len, cap, rfl⟩ := okWide_slice Try.underlying22 hv
  obtain ⟨fuel, hf⟩ := h
  rcases DataW.trod_slice Try.underlying22 hf with ⟨hcs, _⟩ | ⟨a, l, c, elems, rest, n, _, hcs, _, hb, hl, hm, hlen, hel, _⟩
  · simp [Value.cells] at hcs
    obtain ⟨rfl, rfl, rfl⟩ := hcs
    exact ⟨none, 0, 0, fun _ => ⟨0, 0, 0, false, none, 0, 0, fun _ => 0⟩, rfl, by omega, fun i hi => absurd hi (by omega)⟩
  · simp [Value.cells] at hcs
    obtain ⟨rfl, rfl, rfl⟩ := hcs
    have each : ∀ i, ∃ t : ActD, i < len → ActAt W (a.add (i * 5)) t := fun i => by
      by_cases hi : i < len
      · have he := hel i hi
        obtain ⟨y, hy⟩ : ∃ y, elems[i]? = some y := ⟨elems[i], List.getElem?_eq_getElem (by omega)⟩
        rw [hy, Option.bind_eq_some_iff, cellsAct] at he
        obtain ⟨cs, hc, ht⟩ := he
        have hblk := World.cells?_block hc (by omega)
        obtain ⟨_, hcl, hcc⟩ := World.cells?_some hc
        obtain ⟨c0, c1, c2, c3, c4, rfl⟩ : ∃ c0 c1 c2 c3 c4, cs = [c0, c1, c2, c3, c4] := by
          match cs, hcl with
          | [c0, c1, c2, c3, c4], _ => exact ⟨c0, c1, c2, c3, c4, rfl⟩
        have q0 := hcc 0 (by omega)
        have q1 := hcc 1 (by omega)
        have q2 := hcc 2 (by omega)
        have q3 := hcc 3 (by omega)
        have q4 := hcc 4 (by omega)
        obtain ⟨y0, y1, y2, y3, y4, m, h0, h1, h2, h3, h4⟩ := trod_struct5 Try.underlying33 ht
        simp only [cellsInt, cellsU8, cellsBool, cellsRow, List.drop_zero, List.drop_succ_cons, List.take_succ_cons, List.take_zero] at h0 h1 h2 h3 h4
        obtain ⟨k, e0, _, f0⟩ := DataW.trod_int Try.underlying3 h0
        obtain ⟨i1, e1, _, f1⟩ := DataW.trod_int Try.underlying3 h1
        obtain ⟨c, e2, _, f2⟩ := DataW.trod_int Try.underlying5 h2
        obtain ⟨b, e3, _⟩ := DataW.trod_bool Try.underlying4 h3
        simp at e0 e1 e2 e3
        subst e0 e1 e2 e3
        have hrow : ∃ (s : Option Addr) (l' c' : Nat) (zs : List Int), c4 = .slice s l' c' ∧ ((s = none ∧ l' = 0 ∧ c' = 0 ∧ zs = []) ∨ ∃ x, s = some x ∧ l' ≤ c' ∧ c' ≤ maxLen ∧ zs.length = c' ∧ (∀ i, i < zs.length → W.cell? (x.add i) = some (.int .u8 (zs.getD i 0))) ∧ ∀ n ∈ zs, (Lit.int .u8 n).wf = true) := by
          rcases open_ints Try.underlying31 Try.underlying5 (by kernel_rfl) h4 with ⟨hcs, _⟩ | ⟨x, l', c', zs, hcs, _, hl', hm', hz', _, hcell, hwz⟩
          · simp at hcs
            exact ⟨none, 0, 0, [], hcs, .inl ⟨rfl, rfl, rfl, rfl⟩⟩
          · simp at hcs
            exact ⟨some x, l', c', zs, hcs, .inr ⟨x, rfl, hl', hm', by simpa using hz', hcell, hwz⟩⟩
        obtain ⟨s, l', c', zs, rfl, hr⟩ := hrow
        obtain ⟨r1, r2, f, r3, r4⟩ := bytes_of hr
        have g0 : -9223372036854775808 ≤ k ∧ k ≤ 9223372036854775807 := by simp [Lit.wf, IntKind.min, IntKind.max, IntKind.bits, IntKind.signed] at f0; omega
        have g1 : -9223372036854775808 ≤ i1 ∧ i1 ≤ 9223372036854775807 := by simp [Lit.wf, IntKind.min, IntKind.max, IntKind.bits, IntKind.signed] at f1; omega
        have g2 : 0 ≤ c ∧ c < 256 := by simp [Lit.wf, IntKind.min, IntKind.max, IntKind.bits, IntKind.signed] at f2; omega
        obtain ⟨cn, rfl⟩ : ∃ cn : Nat, c = cn := ⟨c.toNat, by omega⟩
        have e00 : (a.add (i * 5)).add 0 = a.add (i * 5) := rfl
        rw [e00] at q0
        exact ⟨⟨k, i1, cn, b, s, l', c', f⟩, fun _ => ⟨hblk, q0, q1, q2, q3, q4, g1.1, g1.2, (by show cn < 256; omega), r1, r2, r3, r4, g0.1, g0.2⟩⟩
      · exact ⟨⟨0, 0, 0, false, none, 0, 0, fun _ => 0⟩, fun h => absurd h hi⟩
    obtain ⟨g, hg⟩ := Classical.axiomOfChoice each
    exact ⟨some a, len, cap, g, rfl, by simp only [maxLen] at hm; omega, fun i hi => ⟨a, rfl, hg i hi⟩⟩
end Go.Proofs.Ytldbnlmimjamnaa
