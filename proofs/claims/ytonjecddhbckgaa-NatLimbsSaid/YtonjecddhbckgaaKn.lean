/- Division of long numbers, as numbers: shifts, the guessed limb. Nothing of the program is in here. -/
import Derived.Test.YtonjecddhbckgaaDc
namespace Go.Proofs.Ytonjecddhbckgaa
open Go.RowKit

theorem num_mod {f : Nat → Nat} {n : Nat} (hf : ∀ j, j < n → f j < 4294967296) : num 4294967296 f n % 4294967296 = limbOf f n 0 := by
  unfold limbOf
  rcases Nat.eq_zero_or_pos n with h | h
  · subst h; simp [num]
  · rw [if_pos h, num_first h, Nat.add_mul_mod_self_left, Nat.mod_eq_of_lt (hf 0 h)]

theorem shift_step (a0 A S T : Nat) (hL : S * T = 4294967296) (ha : a0 < 4294967296) :
    (a0 + (A % 4294967296) * 4294967296) / S % 4294967296 + 4294967296 * (A / S) = (a0 + 4294967296 * A) / S := by
  have hS : 0 < S := by
    rcases Nat.eq_zero_or_pos S with h | h
    · rw [h, Nat.zero_mul] at hL; omega
    · exact h
  have hv : A % 4294967296 % S = A % S := Nat.mod_mod_of_dvd _ ⟨T, hL.symm⟩
  have e1 := Nat.div_add_mod A S
  have e2 := Nat.div_add_mod (A % 4294967296) S
  rw [hv] at e2
  have hvl : A % S < S := Nat.mod_lt _ hS
  generalize A % 4294967296 = a1 at *
  generalize A / S = u at *
  generalize a1 / S = u1 at *
  generalize A % S = v at *
  subst e1
  subst e2
  have h1 : a0 + (S * u1 + v) * 4294967296 = (a0 + v * 4294967296) + S * (u1 * 4294967296) := by rw [Nat.add_mul, Nat.mul_assoc]; omega
  have h2 : a0 + 4294967296 * (S * u + v) = (a0 + v * 4294967296) + S * (u * 4294967296) := by
    rw [Nat.mul_add, Nat.mul_comm 4294967296 (S * u), Nat.mul_assoc]; omega
  have h3 : (a0 + v * 4294967296) / S < 4294967296 := by
    rw [Nat.div_lt_iff_lt_mul hS]
    have : (v + 1) * 4294967296 ≤ S * 4294967296 := Nat.mul_le_mul_right _ hvl
    rw [Nat.mul_comm 4294967296]
    omega
  rw [h1, h2, Nat.add_mul_div_left _ _ hS, Nat.add_mul_div_left _ _ hS, Nat.add_mul_mod_self_right, Nat.mod_eq_of_lt h3]
  omega

theorem num_sd (s : Nat) (hs : s < 32) : ∀ (n : Nat) (f : Nat → Nat), (∀ j, j < n → f j < 4294967296) → num 4294967296 (sd f n s) n = num 4294967296 f n / 2 ^ s
  | 0, _, _ => by simp [num]
  | n + 1, f, hf => by
    have ih := num_sd s hs n (fun j => f (j + 1)) (fun j hj => hf (j + 1) (by omega))
    have e1 : num 4294967296 (fun j => sd f (n + 1) s (j + 1)) n = num 4294967296 (sd (fun j => f (j + 1)) n s) n := num_congr n fun j _ => by
      unfold sd limbOf
      simp only [Nat.add_lt_add_iff_right]
    rw [num_first (by omega), num_first (f := f) (by omega)]
    simp only [Nat.add_sub_cancel]
    rw [e1, ih]
    have hm := num_mod (f := fun j => f (j + 1)) (n := n) (fun j hj => hf (j + 1) (by omega))
    have e2 : sd f (n + 1) s 0 = (f 0 + num 4294967296 (fun j => f (j + 1)) n % 4294967296 * 4294967296) / 2 ^ s % 4294967296 := by
      rw [hm]
      unfold sd limbOf
      simp only [Nat.zero_lt_succ, if_true, Nat.zero_add]
      congr 4
      by_cases h0 : 0 < n
      · rw [if_pos (by omega), if_pos h0]
      · rw [if_neg (by omega), if_neg h0]
    rw [e2]
    exact shift_step _ _ (2 ^ s) (2 ^ (32 - s)) (by rw [← Nat.pow_add, show s + (32 - s) = 32 from by omega]) (hf 0 (by omega))

/-- What the guess is good for: k is the quotient, or one more. -/
def Guessed (k R D : Nat) : Prop := R / D ≤ k ∧ k ≤ R / D + 1 ∧ k < 4294967296

/-- Knuth's bound: with the two highest limbs of the divisor met, the guess is at most one too great. -/
theorem knuth {k R D U V W : Nat} (hR : U * W ≤ R) (hV : V * W ≤ D) (hD : D < (V + 1) * W) (hVL : 4294967296 ≤ V) (hkl : k < 4294967296) (hle : k * V ≤ U) (hq : R / D ≤ k) (hD0 : 0 < D) : Guessed k R D := by
  refine ⟨hq, ?_, hkl⟩
  rcases Nat.lt_or_ge k 1 with h | h
  · exact Nat.le_trans (Nat.le_of_lt h) (Nat.le_add_left _ _)
  · have h1 : (k - 1) * D ≤ R := by
      have a1 : k * D ≤ k * V * W + k * W := by
        have := Nat.mul_le_mul_left k (Nat.le_of_lt hD)
        rw [Nat.add_mul, Nat.one_mul, Nat.mul_add, ← Nat.mul_assoc] at this
        exact this
      have a2 : k * V * W ≤ U * W := Nat.mul_le_mul_right _ hle
      have a3 : k * W ≤ V * W := Nat.mul_le_mul_right _ (by omega)
      rw [Nat.sub_mul, Nat.one_mul]
      omega
    have h2 := (Nat.le_div_iff_mul_le hD0).2 h1
    generalize R / D = q at *
    omega
/-- A guess that is too great by its two limbs is too great. -/
theorem knuth_dec {k R D U V W : Nat} (hR : R < (U + 1) * W) (hV : V * W ≤ D) (hgt : U < k * V) (hD0 : 0 < D) : R / D ≤ k - 1 := by
  have h1 : R < k * D := by
    have a1 : (U + 1) * W ≤ k * V * W := Nat.mul_le_mul_right _ hgt
    have a2 : k * (V * W) ≤ k * D := Nat.mul_le_mul_left _ hV
    rw [← Nat.mul_assoc] at a2
    omega
  have h2 : R / D < k := (Nat.div_lt_iff_lt_mul hD0).2 h1
  generalize R / D = q at *
  omega
end Go.Proofs.Ytonjecddhbckgaa
