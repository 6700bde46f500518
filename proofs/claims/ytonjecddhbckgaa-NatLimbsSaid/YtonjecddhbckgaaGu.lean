/- Contracts: guess. -/
import Derived.Test.YtonjecddhbckgaaKn
import Derived.Test.YtonjecddhbckgaaCe
namespace Go.Proofs.Ytonjecddhbckgaa
open Go.RowKit

/-- The state of guess at its loop's head. -/
structure GuInv (k rest top v1 v0 u0 R D : Nat) : Prop where
  eq : k * v1 + rest = top
  rl : rest < 4294967296
  ub : R / D ≤ k
  kl : k ≤ 4294967297

/-- What guess knows of its numbers. -/
structure GuFacts (top v1 v0 u0 R D W : Nat) : Prop where
  r1 : (top * 4294967296 + u0) * W ≤ R
  r2 : R < (top * 4294967296 + u0 + 1) * W
  d1 : (v1 * 4294967296 + v0) * W ≤ D
  d2 : D < (v1 * 4294967296 + v0 + 1) * W
  dp : 0 < D
  q : R / D < 4294967296
  vh : 2147483648 ≤ v1
  vl : v1 < 4294967296
  wl : v0 < 4294967296
  ul : u0 < 4294967296
  tl : top ≤ v1 * 4294967296 + 4294967295

section
variable {k rest top v1 v0 u0 R D W : Nat}
theorem GuInv.high (F : GuFacts top v1 v0 u0 R D W) (hk : 4294967296 ≤ k) : R / D ≤ k - 1 := by
  have := F.q
  generalize R / D = q at *
  omega
theorem GuInv.low (h : GuInv k rest top v1 v0 u0 R D) (F : GuFacts top v1 v0 u0 R D W) (hgt : rest * 4294967296 + u0 < k * v0) : R / D ≤ k - 1 := by
  refine knuth_dec (U := top * 4294967296 + u0) (V := v1 * 4294967296 + v0) (W := W) F.r2 F.d1 ?_ F.dp
  rw [← h.eq, Nat.mul_add, Nat.add_mul, ← Nat.mul_assoc, Nat.add_assoc]
  exact Nat.add_lt_add_left hgt _
theorem GuInv.pos_low (hgt : rest * 4294967296 + u0 < k * v0) : 1 ≤ k := by
  rcases Nat.eq_zero_or_pos k with h | h
  · subst h; omega
  · exact h
theorem GuInv.next (h : GuInv k rest top v1 v0 u0 R D) (hk : 1 ≤ k) (hq : R / D ≤ k - 1) (hr : rest + v1 < 4294967296) : GuInv (k - 1) (rest + v1) top v1 v0 u0 R D := by
  refine ⟨?_, hr, hq, by have := h.kl; omega⟩
  have := h.eq
  obtain ⟨i, rfl⟩ : ∃ i, k = i + 1 := ⟨k - 1, by omega⟩
  rw [Nat.add_mul, Nat.one_mul] at this
  simp only [Nat.add_sub_cancel]
  omega
theorem GuInv.broken (h : GuInv k rest top v1 v0 u0 R D) (F : GuFacts top v1 v0 u0 R D W) (hk : 1 ≤ k) (hq : R / D ≤ k - 1) (hr : 4294967296 ≤ rest + v1) : Guessed (k - 1) R D := by
  have he := h.eq
  obtain ⟨i, rfl⟩ : ∃ i, k = i + 1 := ⟨k - 1, by omega⟩
  simp only [Nat.add_sub_cancel] at *
  rw [Nat.add_mul, Nat.one_mul] at he
  have ht := F.tl
  have hil : i < 4294967296 := by
    rcases Nat.lt_or_ge i 4294967296 with h1 | h1
    · exact h1
    · have : 4294967296 * v1 ≤ i * v1 := Nat.mul_le_mul_right _ h1
      omega
  refine knuth (U := top * 4294967296 + u0) (V := v1 * 4294967296 + v0) (W := W) F.r1 F.d1 F.d2 (by have := F.vh; omega) hil ?_ hq F.dp
  have h1 : i * v0 ≤ 4294967295 * 4294967295 := Nat.mul_le_mul (by omega) (by have := F.wl; omega)
  have he2 : i * v1 + (rest + v1) = top := by generalize i * v1 = b at *; omega
  rw [← he2, Nat.mul_add, Nat.add_mul, ← Nat.mul_assoc, Nat.add_assoc]
  refine Nat.add_le_add_left ?_ _
  generalize i * v0 = b at *
  omega
theorem GuInv.done (h : GuInv k rest top v1 v0 u0 R D) (F : GuFacts top v1 v0 u0 R D W) (hk : k < 4294967296) (hle : k * v0 ≤ rest * 4294967296 + u0) : Guessed k R D := by
  refine knuth (U := top * 4294967296 + u0) (V := v1 * 4294967296 + v0) (W := W) F.r1 F.d1 F.d2 (by have := F.vh; omega) hk ?_ h.ub F.dp
  rw [← h.eq, Nat.mul_add, Nat.add_mul, ← Nat.mul_assoc, Nat.add_assoc]
  exact Nat.add_le_add_left hle _
theorem GuFacts.start (F : GuFacts top v1 v0 u0 R D W) : GuInv (top / v1) (top % v1) top v1 v0 u0 R D := by
  have hv := F.vh
  have hdm := Nat.div_add_mod top v1
  have hml : top % v1 < v1 := Nat.mod_lt _ (by omega)
  refine ⟨by rw [Nat.mul_comm]; exact hdm, by have := F.vl; omega, ?_, ?_⟩
  · have h1 : R < (top / v1 + 1) * D := by
      have a1 : top + 1 ≤ (top / v1 + 1) * v1 := by rw [Nat.add_mul, Nat.one_mul, Nat.mul_comm]; omega
      have a2 : (top + 1) * 4294967296 ≤ (top / v1 + 1) * v1 * 4294967296 := Nat.mul_le_mul_right _ a1
      have a3 : (top * 4294967296 + u0 + 1) * W ≤ (top / v1 + 1) * v1 * 4294967296 * W := Nat.mul_le_mul_right _ (by have := F.ul; omega)
      have a4 : (v1 * 4294967296) * W ≤ D := Nat.le_trans (Nat.mul_le_mul_right _ (Nat.le_add_right _ _)) F.d1
      have a5 := Nat.mul_le_mul_left (top / v1 + 1) a4
      rw [← Nat.mul_assoc, ← Nat.mul_assoc] at a5
      have := F.r2
      omega
    have h2 := (Nat.div_lt_iff_lt_mul F.dp).2 h1
    generalize R / D = q at *
    generalize top / v1 = t at *
    omega
  · have ht := F.tl
    rcases Nat.lt_or_ge (top / v1) 4294967298 with h | h
    · omega
    · have : v1 * 4294967298 ≤ v1 * (top / v1) := Nat.mul_le_mul_left _ h
      omega
end
end Go.Proofs.Ytonjecddhbckgaa
