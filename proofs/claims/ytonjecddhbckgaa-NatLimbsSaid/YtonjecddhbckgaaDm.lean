/- Long division: its numbers. Nothing of the program is in here. -/
import Derived.Test.YtonjecddhbckgaaKn
namespace Go.Proofs.Ytonjecddhbckgaa
open Go.RowKit

theorem pow31 {s : Nat} (hs : s < 32) : 2 ^ s ≤ 2147483648 := Nat.le_trans (Nat.pow_le_pow_right (by omega) (show s ≤ 31 by omega)) (by decide)

/-- The divisor, shifted: its last limb is 0, the one before it is great. -/
theorem norm_top {h F : Nat → Nat} {k s : Nat} (hs : s < 32) (hh : ∀ j, j < k + 1 → h j < 4294967296) (h1 : 2147483648 ≤ h k * 2 ^ s) (h2 : h k * 2 ^ s < 4294967296)
    (hF : ∀ j, j < k + 1 + 1 → F j < 4294967296) (hN : num 4294967296 F (k + 1 + 1) = 2 ^ s * num 4294967296 h (k + 1)) :
    num 4294967296 F (k + 1) = 2 ^ s * num 4294967296 h (k + 1) ∧ 2147483648 ≤ F k ∧ 2147483648 * 4294967296 ^ k ≤ 2 ^ s * num 4294967296 h (k + 1) := by
  have a1 : num 4294967296 h (k + 1) = num 4294967296 h k + h k * 4294967296 ^ k := rfl
  have a2 : num 4294967296 h k < 4294967296 ^ k := num_lt (by omega) k (fun j hj => hh j (by omega))
  have a3 : h k + 1 ≤ 2 ^ (32 - s) := by
    have e : (4294967296 : Nat) = 2 ^ (32 - s) * 2 ^ s := by rw [← Nat.pow_add, show 32 - s + s = 32 from by omega]
    rw [e] at h2
    exact Nat.lt_of_mul_lt_mul_right h2
  have a4 : (h k + 1) * 2 ^ s ≤ 4294967296 := by
    have e : (4294967296 : Nat) = 2 ^ (32 - s) * 2 ^ s := by rw [← Nat.pow_add, show 32 - s + s = 32 from by omega]
    rw [e]
    exact Nat.mul_le_mul_right _ a3
  have a5 : 2 ^ s * num 4294967296 h (k + 1) < 4294967296 * 4294967296 ^ k := by
    have : num 4294967296 h (k + 1) < (h k + 1) * 4294967296 ^ k := by rw [a1, Nat.add_mul, Nat.one_mul]; omega
    have b1 : 2 ^ s * num 4294967296 h (k + 1) < 2 ^ s * ((h k + 1) * 4294967296 ^ k) := Nat.mul_lt_mul_of_pos_left this (Nat.pow_pos (by omega))
    have b2 : 2 ^ s * ((h k + 1) * 4294967296 ^ k) ≤ 4294967296 * 4294967296 ^ k := by
      rw [← Nat.mul_assoc, Nat.mul_comm (2 ^ s)]
      exact Nat.mul_le_mul_right _ a4
    omega
  have a6 : 2147483648 * 4294967296 ^ k ≤ 2 ^ s * num 4294967296 h (k + 1) := by
    have b1 : 2147483648 * 4294967296 ^ k ≤ h k * 2 ^ s * 4294967296 ^ k := Nat.mul_le_mul_right _ h1
    have b2 : 2 ^ s * (h k * 4294967296 ^ k) ≤ 2 ^ s * num 4294967296 h (k + 1) := Nat.mul_le_mul_left _ (by rw [a1]; omega)
    rw [← Nat.mul_assoc, Nat.mul_comm (2 ^ s) (h k)] at b2
    omega
  have a7 : F (k + 1) = 0 := by
    rw [num_succ, Nat.pow_succ, Nat.mul_comm (4294967296 ^ k)] at hN
    rcases Nat.eq_zero_or_pos (F (k + 1)) with h0 | h0
    · exact h0
    · have : 1 * (4294967296 * 4294967296 ^ k) ≤ F (k + 1) * (4294967296 * 4294967296 ^ k) := Nat.mul_le_mul_right _ h0
      omega
  have a8 : num 4294967296 F (k + 1) = 2 ^ s * num 4294967296 h (k + 1) := by
    rw [num_succ, a7, Nat.zero_mul, Nat.add_zero] at hN
    exact hN
  refine ⟨a8, ?_, a6⟩
  have a9 : num 4294967296 F k < 4294967296 ^ k := num_lt (by omega) k (fun j hj => hF j (by omega))
  have a10 : num 4294967296 F (k + 1) = num 4294967296 F k + F k * 4294967296 ^ k := rfl
  have a11 : 2147483648 * 4294967296 ^ k < (F k + 1) * 4294967296 ^ k := by rw [Nat.add_mul, Nat.one_mul]; omega
  have := Nat.lt_of_mul_lt_mul_right a11
  omega

/-- The first segment lies below the divisor. -/
theorem long_start {f F : Nat → Nat} {n k s D t : Nat} (hs : s < 32) (hf : ∀ j, j < n → f j < 4294967296) (hF : ∀ j, j < n + 1 → F j < 4294967296) (hN : num 4294967296 F (n + 1) = 2 ^ s * num 4294967296 f n)
    (hD : 2147483648 * 4294967296 ^ k ≤ D) (ht : t + k = n) : num 4294967296 (fun i => F (t + i)) (k + 1) < D := by
  have a1 := num_lt (B := 4294967296) (by omega) n hf
  have a2 : F n < 2 ^ s := by
    have b1 : F n * 4294967296 ^ n ≤ num 4294967296 F (n + 1) := by rw [num_succ]; omega
    have b2 : 2 ^ s * num 4294967296 f n < 2 ^ s * 4294967296 ^ n := Nat.mul_lt_mul_of_pos_left a1 (Nat.pow_pos (by omega))
    exact Nat.lt_of_mul_lt_mul_right (a := 4294967296 ^ n) (by omega)
  have a3 : num 4294967296 (fun i => F (t + i)) k < 4294967296 ^ k := num_lt (by omega) k (fun j hj => hF _ (by omega))
  have a4 : num 4294967296 (fun i => F (t + i)) (k + 1) = num 4294967296 (fun i => F (t + i)) k + F n * 4294967296 ^ k := by rw [num_succ, ht]
  have a5 : (F n + 1) * 4294967296 ^ k ≤ 2147483648 * 4294967296 ^ k := Nat.mul_le_mul_right _ (by have := pow31 hs; omega)
  rw [Nat.add_mul, Nat.one_mul] at a5
  omega

/-- The numbers of the loop: t digits are still to come. -/
def LongNum (m n n' t D R : Nat) (F Q : Nat → Nat) : Prop :=
  (∀ j, j < n + 1 → F j < 4294967296) ∧ (∀ j, t + m ≤ j → j < n + 1 → F j = 0) ∧ (∀ j, j < n' → Q j < 4294967296) ∧ num 4294967296 (fun i => F (t + i)) m < D ∧
    num 4294967296 F (t + m) + D * (4294967296 ^ t * num 4294967296 (fun i => Q (t + i)) (n' - t)) = R

theorem long_seg {m n n' j D R : Nat} {F Q : Nat → Nat} (hi : LongNum m n n' (j + 1) D R F Q) (hj : j < n + 1) : num 4294967296 (fun i => F (j + i)) (m + 1) < D * 4294967296 := by
  obtain ⟨h1, h2, h3, h4, h5⟩ := hi
  rw [num_first (by omega), Nat.add_sub_cancel]
  have e : (fun i => F (j + (i + 1))) = fun i => F (j + 1 + i) := funext fun i => by rw [Nat.add_assoc, Nat.add_comm 1 i]
  simp only [e, Nat.add_zero]
  have := h1 j hj
  omega

theorem long_step {m n n' j D R : Nat} {F Q F' : Nat → Nat} (hi : LongNum m n n' (j + 1) D R F Q) (hjn : j + m < n + 1) (hj' : j < n') (hDm : D ≤ 4294967296 ^ m) (hD : 0 < D)
    (a1 : ∀ i, ¬ (j ≤ i ∧ i < j + (m + 1)) → F' i = F i) (a2 : ∀ i, i < m + 1 → F' (j + i) < 4294967296) (a3 : num 4294967296 (fun i => F' (j + i)) (m + 1) = num 4294967296 (fun i => F (j + i)) (m + 1) % D) :
    LongNum m n n' j D R F' (upd Q j (num 4294967296 (fun i => F (j + i)) (m + 1) / D)) := by
  have hs := long_seg hi (by omega)
  obtain ⟨h1, h2, h3, h4, h5⟩ := hi
  have hm := Nat.mod_lt (num 4294967296 (fun i => F (j + i)) (m + 1)) hD
  have hdm := Nat.div_add_mod (num 4294967296 (fun i => F (j + i)) (m + 1)) D
  have hk : num 4294967296 (fun i => F (j + i)) (m + 1) / D < 4294967296 := (Nat.div_lt_iff_lt_mul hD).2 (by rw [Nat.mul_comm]; exact hs)
  have e1 : num 4294967296 F (j + 1 + m) = num 4294967296 F j + 4294967296 ^ j * num 4294967296 (fun i => F (j + i)) (m + 1) := by
    rw [show j + 1 + m = j + (m + 1) from by omega, num_add]
  rw [e1] at h5
  clear e1
  generalize num 4294967296 (fun i => F (j + i)) (m + 1) = seg at *
  generalize seg / D = k at *
  generalize seg % D = r at *
  have hz : F' (j + m) = 0 := by
    rw [num_succ] at a3
    rcases Nat.eq_zero_or_pos (F' (j + m)) with h0 | h0
    · exact h0
    · have : 1 * 4294967296 ^ m ≤ F' (j + m) * 4294967296 ^ m := Nat.mul_le_mul_right _ h0
      omega
  have a4 : num 4294967296 (fun i => F' (j + i)) m = r := by
    rw [num_succ, hz, Nat.zero_mul, Nat.add_zero] at a3
    exact a3
  refine ⟨fun i hi => ?_, fun i hi hi2 => ?_, fun i hi => ?_, by rw [a4]; exact hm, ?_⟩
  · by_cases hc : j ≤ i ∧ i < j + (m + 1)
    · have := a2 (i - j) (by omega)
      rwa [show j + (i - j) = i from by omega] at this
    · rw [a1 i hc]; exact h1 i hi
  · by_cases hc : i = j + m
    · subst hc; exact hz
    · rw [a1 i (by omega)]; exact h2 i (by omega) hi2
  · by_cases hc : i = j
    · subst hc; rw [upd_same]; exact hk
    · rw [upd_ne _ _ _ hc]; exact h3 i hi
  · have e2 : num 4294967296 F' (j + m) = num 4294967296 F j + 4294967296 ^ j * r := by
      rw [num_add, a4, num_congr j (fun i hi => a1 i (by omega))]
    have e3 : num 4294967296 (fun i => upd Q j k (j + i)) (n' - j) = k + 4294967296 * num 4294967296 (fun i => Q (j + 1 + i)) (n' - (j + 1)) := by
      rw [num_first (by omega), Nat.add_zero, upd_same, show n' - j - 1 = n' - (j + 1) from by omega]
      rw [num_congr (f' := fun i => Q (j + 1 + i)) _ (fun i hi => by show upd Q j k (j + (i + 1)) = Q (j + 1 + i); rw [upd_ne _ _ _ (by omega), show j + (i + 1) = j + 1 + i from by omega])]
    rw [e2, e3, ← h5, ← hdm]
    generalize num 4294967296 (fun i => Q (j + 1 + i)) (n' - (j + 1)) = q
    generalize num 4294967296 F j = x
    rw [Nat.pow_succ]
    generalize 4294967296 ^ j = P
    rw [Nat.mul_add P (D * k), Nat.mul_left_comm P D k, Nat.mul_assoc P, Nat.mul_add P k, Nat.mul_add D]
    omega

/-- The loop's end. -/
theorem long_end {m n n' D R : Nat} {F Q : Nat → Nat} (hi : LongNum m n n' 0 D R F Q) (hm : m ≤ n + 1) : num 4294967296 Q n' = R / D ∧ num 4294967296 F (n + 1) = R % D := by
  obtain ⟨h1, h2, h3, h4, h5⟩ := hi
  simp only [Nat.zero_add, Nat.pow_zero, Nat.one_mul, Nat.sub_zero] at h2 h4 h5
  have e : num 4294967296 F (n + 1) = num 4294967296 F m := by
    rw [show n + 1 = m + (n + 1 - m) from by omega, num_add, num_zeros (n + 1 - m) (fun j hj => h2 _ (by omega) (by omega)), Nat.mul_zero, Nat.add_zero]
  rw [e]
  have hD : 0 < D := by omega
  generalize num 4294967296 F m = x at *
  generalize num 4294967296 Q n' = q at *
  subst h5
  rw [Nat.add_mul_div_left _ _ hD, Nat.div_eq_of_lt h4, Nat.add_mul_mod_self_left, Nat.mod_eq_of_lt h4]
  omega

theorem unshift {s X Y q r : Nat} (h : q = 2 ^ s * X / (2 ^ s * Y) ∧ r = 2 ^ s * X % (2 ^ s * Y)) : q = X / Y ∧ r / 2 ^ s = X % Y := by
  have hp : 0 < 2 ^ s := Nat.pow_pos (by omega)
  obtain ⟨rfl, rfl⟩ := h
  rw [Nat.mul_div_mul_left _ _ hp, Nat.mul_mod_mul_left, Nat.mul_div_cancel_left _ hp]
  exact ⟨rfl, rfl⟩
end Go.Proofs.Ytonjecddhbckgaa
