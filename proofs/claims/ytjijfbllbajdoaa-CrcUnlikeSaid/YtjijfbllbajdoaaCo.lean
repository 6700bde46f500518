/- What a slice of arrays of three bytes, and an array of four, that came in read as. -/
import Derived.Test.YtjijfbllbajdoaaCn
import Derived.WalkKit
import Derived.ProofKit
import Derived.OpenShut
import Derived.Lib.SmallJoins
import Derived.Laws.IdiomArrays
namespace Go.Proofs.Ytjijfbllbajdoaa
open Go.ChangeShapes Go.WideShapes Go.ChangeAt Go.RowKit

theorem cells3 : Try.prog.cellsOf 36 = 3 := by kernel_rfl
theorem cells8 : Try.prog.cellsOf 5 = 1 := by kernel_rfl
theorem u8_of {n : Int} (h : (Lit.int .u8 n).wf = true) : ∃ x : Nat, n = (x : Int) ∧ x < 256 := by
  have b := bounds_u8 h
  obtain ⟨x, rfl⟩ := Int.eq_ofNat_of_zero_le b.1
  exact ⟨x, rfl, by omega⟩
set_option maxRecDepth 100000 in
theorem tri_open {H : Type} {enc : TypeId × Value → H} {W : World} {base b0 : Nat} {held : Bool} {r : Reach} {v : Value} {d : DataW H} {p : List MemPlace} (hv : Value.okWide Try.prog W r b0 35 v) (h : DataW.Trod enc Try.prog W base (fun _ => true) held 35 v d p) :
    ∃ (A : Option Addr) (len cap : Nat) (X Y Z : Nat → Nat), v = .slice A len cap ∧ len ≤ 9223372036854775807 ∧ Tri W A len X Y Z := by
  obtain ⟨A, len, cap, rfl⟩ := okWide_slice Try.underlying35 hv
  obtain ⟨fuel, hf⟩ := h
  rcases DataW.trod_slice Try.underlying35 hf with ⟨hcs, _⟩ | ⟨a, l, c, elems, rest, n, _, hcs, _, hb, hl, hm, hlen, hel, _⟩
  · simp [Value.cells] at hcs
    obtain ⟨rfl, rfl, rfl⟩ := hcs
    exact ⟨none, 0, 0, fun _ => 0, fun _ => 0, fun _ => 0, rfl, by omega, fun i hi => absurd hi (by omega)⟩
  · simp [Value.cells] at hcs
    obtain ⟨rfl, rfl, rfl⟩ := hcs
    have each : ∀ i, ∃ t : Nat × Nat × Nat, i < len → a.block < W.heap.size ∧ W.cell? (a.add (i * 3)) = some (.int .u8 (t.1 : Nat)) ∧ W.cell? ((a.add (i * 3)).add 1) = some (.int .u8 (t.2.1 : Nat)) ∧ W.cell? ((a.add (i * 3)).add 2) = some (.int .u8 (t.2.2 : Nat)) ∧ t.1 < 256 ∧ t.2.1 < 256 ∧ t.2.2 < 256 := fun i => by
      by_cases hi : i < len
      · have he := hel i hi
        obtain ⟨y, hy⟩ : ∃ y, elems[i]? = some y := ⟨elems[i], List.getElem?_eq_getElem (by omega)⟩
        rw [hy, Option.bind_eq_some_iff, cells3] at he
        obtain ⟨cs, hc, ht⟩ := he
        have hblk := World.cells?_block hc (by omega)
        rw [add_block] at hblk
        obtain ⟨_, hcl, hcc⟩ := World.cells?_some hc
        obtain ⟨c0, c1, c2, rfl⟩ : ∃ c0 c1 c2, cs = [c0, c1, c2] := by
          match cs, hcl with
          | [c0, c1, c2], _ => exact ⟨c0, c1, c2, rfl⟩
        have q0 := hcc 0 (by omega)
        have q1 := hcc 1 (by omega)
        have q2 := hcc 2 (by omega)
        obtain ⟨y0, y1, y2, m, _, h0, h1, h2⟩ := trod_array3 Try.underlying36 cells8 ht
        obtain ⟨x0, e0, _, f0⟩ := DataW.trod_int Try.underlying5 h0
        obtain ⟨x1, e1, _, f1⟩ := DataW.trod_int Try.underlying5 h1
        obtain ⟨x2, e2, _, f2⟩ := DataW.trod_int Try.underlying5 h2
        simp at e0 e1 e2
        subst e0 e1 e2
        obtain ⟨n0, rfl, l0⟩ := u8_of f0
        obtain ⟨n1, rfl, l1⟩ := u8_of f1
        obtain ⟨n2, rfl, l2⟩ := u8_of f2
        refine ⟨(n0, n1, n2), fun _ => ⟨hblk, ?_, q1, q2, l0, l1, l2⟩⟩
        have : (a.add (i * 3)).add 0 = a.add (i * 3) := rfl
        rw [this] at q0
        exact q0
      · exact ⟨(0, 0, 0), fun h => absurd h hi⟩
    obtain ⟨g, hg⟩ := Classical.axiomOfChoice each
    exact ⟨some a, len, cap, fun i => (g i).1, fun i => (g i).2.1, fun i => (g i).2.2, rfl, by simp only [maxLen] at hm; omega, fun i hi => ⟨a, rfl, hg i hi⟩⟩
end Go.Proofs.Ytjijfbllbajdoaa
