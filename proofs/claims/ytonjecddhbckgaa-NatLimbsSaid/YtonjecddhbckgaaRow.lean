/- What a slice of integers that came in reads as. -/
import Derived.Test.YtonjecddhbckgaaAw
namespace Go.Proofs.Ytonjecddhbckgaa
open Go.RowKit

theorem row_of {w : World} {a : Option Addr} {len cap : Nat} {zs : List Int}
    (h : (a = none ∧ len = 0 ∧ cap = 0 ∧ zs = []) ∨ ∃ x, a = some x ∧ len ≤ cap ∧ cap ≤ maxLen ∧ zs.length = cap ∧ (∀ i, i < zs.length → w.cell? (x.add i) = some (.int .u32 (zs.getD i 0))) ∧ ∀ n ∈ zs, (Lit.int .u32 n).wf = true) :
    len ≤ cap ∧ ∃ f, Rd .u32 w a len f ∧ (∀ j, j < len → f j < 4294967296) := by
  rcases h with ⟨rfl, rfl, rfl, rfl⟩ | ⟨x, rfl, hl, hm, hz, hcell, hwf⟩
  · exact ⟨Nat.le_refl _, fun _ => 0, Rd.zero, fun j hj => absurd hj (by omega)⟩
  · have hb : ∀ j, j < len → 0 ≤ zs.getD j 0 ∧ zs.getD j 0 < 4294967296 := fun j hj => by
      have hjl : j < zs.length := by omega
      have hmem : zs.getD j 0 ∈ zs := by
        rw [List.getD, List.getElem?_eq_getElem hjl]; exact List.getElem_mem hjl
      have := hwf _ hmem
      generalize zs.getD j 0 = q at this ⊢
      simp [Lit.wf, IntKind.min, IntKind.max, IntKind.bits, IntKind.signed] at this
      omega
    refine ⟨hl, fun j => (zs.getD j 0).toNat, fun j hj => ⟨x, rfl, ?_⟩, fun j hj => by
      have := hb j hj
      show (zs.getD j 0).toNat < 4294967296
      generalize zs.getD j 0 = q at this ⊢
      omega⟩
    rw [hcell j (by omega), Int.toNat_of_nonneg (hb j hj).1]

theorem lim_of {w : World} {a : Option Addr} {len cap : Nat} {zs : List Int} (k : Nat) (hk : len ≤ k)
    (h : (a = none ∧ len = 0 ∧ cap = 0 ∧ zs = []) ∨ ∃ x, a = some x ∧ len ≤ cap ∧ cap ≤ maxLen ∧ zs.length = cap ∧ (∀ i, i < zs.length → w.cell? (x.add i) = some (.int .u32 (zs.getD i 0))) ∧ ∀ n ∈ zs, (Lit.int .u32 n).wf = true) :
    ∃ N, Lim k w (.slice a len cap) N := by
  obtain ⟨hl, f, h1, h2⟩ := row_of h
  exact ⟨_, a, len, cap, f, rfl, hl, h1, h2, hk, rfl⟩
theorem len_of {w : World} {a : Option Addr} {len cap : Nat} {zs : List Int}
    (h : (a = none ∧ len = 0 ∧ cap = 0 ∧ zs = []) ∨ ∃ x, a = some x ∧ len ≤ cap ∧ cap ≤ maxLen ∧ zs.length = cap ∧ (∀ i, i < zs.length → w.cell? (x.add i) = some (.int .u32 (zs.getD i 0))) ∧ ∀ n ∈ zs, (Lit.int .u32 n).wf = true) :
    len ≤ 9223372036854775807 := by
  rcases h with ⟨_, rfl, _⟩ | ⟨x, _, hl, hm, _⟩
  · omega
  · simp only [maxLen] at hm; omega
end Go.Proofs.Ytonjecddhbckgaa
