/- What a slice of whole numbers that came in reads as. -/
import Derived.Test.YthndfmpnfgbioaaWby
import Derived.Test.YthndfmpnfgbioaaRow8
import Derived.WalkKit
import Derived.ProofKit
import Derived.OpenShut
import Derived.Lib.SmallJoins
namespace Go.Proofs.Ythndfmpnfgbioaa
open Go.ChangeShapes Go.WideShapes Go.ChangeAt Go.RowKit Go.ChangeShapes

theorem cellsI_ : Try.prog.cellsOf 41 = 2 := by kernel_rfl
theorem cellsB_ : Try.prog.cellsOf 4 = 1 := by kernel_rfl
theorem cellsN_ : Try.prog.cellsOf 22 = 1 := by kernel_rfl
set_option maxRecDepth 100000 in
theorem ints_open {H : Type} {enc : TypeId × Value → H} {W : World} {base b0 : Nat} {held : Bool} {r : Reach} {v : Value} {d : DataW H} {p : List MemPlace} (hv : Value.okWide Try.prog W r b0 62 v) (h : DataW.Trod enc Try.prog W base (fun _ => true) held 62 v d p) :
    ∃ (A : Option Addr) (len cap : Nat) (bb : Nat → Bool) (S : Nat → Option Addr) (nn cc : Nat → Nat) (X : Nat → Int), v = .slice A len cap ∧ len ≤ 9223372036854775807 ∧ Ints W A len bb S nn cc X := by
  obtain ⟨A, len, cap, rfl⟩ := okWide_slice Try.underlying62 hv
  obtain ⟨fuel, hf⟩ := h
  rcases DataW.trod_slice Try.underlying62 hf with ⟨hcs, _⟩ | ⟨a, l, c, elems, rest, n, _, hcs, _, hb, hl, hm, hlen, hel, _⟩
  · simp [Value.cells] at hcs
    obtain ⟨rfl, rfl, rfl⟩ := hcs
    exact ⟨none, 0, 0, fun _ => false, fun _ => none, fun _ => 0, fun _ => 0, fun _ => 0, rfl, by omega, fun i hi => absurd hi (by omega)⟩
  · simp [Value.cells] at hcs
    obtain ⟨rfl, rfl, rfl⟩ := hcs
    have each : ∀ i, ∃ t : Bool × Option Addr × Nat × Nat × Int, i < len → a.block < W.heap.size ∧ W.cell? (a.add (i * 2)) = some (.bool t.1) ∧ W.cell? ((a.add (i * 2)).add 1) = some (.slice t.2.1 t.2.2.1 t.2.2.2.1) ∧ LimI t.2.2.1 W (.agg #[.bool t.1, .slice t.2.1 t.2.2.1 t.2.2.2.1]) t.2.2.2.2 := fun i => by
      by_cases hi : i < len
      · have he := hel i hi
        obtain ⟨y, hy⟩ : ∃ y, elems[i]? = some y := ⟨elems[i], List.getElem?_eq_getElem (by omega)⟩
        rw [hy, Option.bind_eq_some_iff, cellsI_] at he
        obtain ⟨cs, hc, ht⟩ := he
        have hblk := World.cells?_block hc (by omega)
        rw [add_block] at hblk
        obtain ⟨_, hcl, hcc⟩ := World.cells?_some hc
        obtain ⟨c0, c1, rfl⟩ : ∃ c0 c1, cs = [c0, c1] := by
          match cs, hcl with
          | [c0, c1], _ => exact ⟨c0, c1, rfl⟩
        have q0 := hcc 0 (by omega)
        have q1 := hcc 1 (by omega)
        obtain ⟨y0, y1, m, _, _, h0, h1⟩ := trod_struct2 Try.underlying41 ht
        simp only [cellsB_, cellsN_, List.drop_zero, List.drop_succ_cons, List.take_succ_cons, List.take_zero] at h0 h1
        obtain ⟨b, e0, _⟩ := DataW.trod_bool Try.underlying4 h0
        simp at e0
        subst e0
        have hrow : ∃ (s : Option Addr) (l' c' : Nat) (zs : List Int), c1 = .slice s l' c' ∧ ((s = none ∧ l' = 0 ∧ c' = 0 ∧ zs = []) ∨ ∃ x, s = some x ∧ l' ≤ c' ∧ c' ≤ maxLen ∧ zs.length = c' ∧ (∀ i, i < zs.length → W.cell? (x.add i) = some (.int .u32 (zs.getD i 0))) ∧ ∀ n ∈ zs, (Lit.int .u32 n).wf = true) := by
          rcases open_ints Try.underlying22 Try.underlying39 (by kernel_rfl) h1 with ⟨hcs, _⟩ | ⟨x, l', c', zs, hcs, _, hl', hm', hz', _, hcell, hwz⟩
          · simp at hcs
            exact ⟨none, 0, 0, [], hcs, .inl ⟨rfl, rfl, rfl, rfl⟩⟩
          · simp at hcs
            exact ⟨some x, l', c', zs, hcs, .inr ⟨x, rfl, hl', hm', by simpa using hz', hcell, hwz⟩⟩
        obtain ⟨s, l', c', zs, rfl, hr⟩ := hrow
        obtain ⟨N, hN⟩ := lim_of l' (Nat.le_refl _) hr
        refine ⟨(b, s, l', c', sg b N), fun _ => ⟨hblk, ?_, ?_, limI_mk hN⟩⟩
        · have : (a.add (i * 2)).add 0 = a.add (i * 2) := rfl
          rw [this] at q0
          exact q0
        · exact q1
      · exact ⟨(false, none, 0, 0, 0), fun h => absurd h hi⟩
    obtain ⟨g, hg⟩ := Classical.axiomOfChoice each
    exact ⟨some a, len, cap, fun i => (g i).1, fun i => (g i).2.1, fun i => (g i).2.2.1, fun i => (g i).2.2.2.1, fun i => (g i).2.2.2.2, rfl, by simp only [maxLen] at hm; omega, fun i hi => ⟨a, rfl, hg i hi⟩⟩
end Go.Proofs.Ythndfmpnfgbioaa
