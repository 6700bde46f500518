/- A number's text is read as it. -/
import Derived.Test.YtonjecddhbckgaaCp
namespace Go.Proofs.Ytonjecddhbckgaa
open Go.RowKit

theorem exists_len (M : Nat) : 0 < M → ∃ k, 0 < k ∧ 10 ^ (k - 1) ≤ M ∧ M < 10 ^ k := by
  induction M using Nat.strongRecOn with
  | ind M ih =>
    intro h
    by_cases h10 : M < 10
    · exact ⟨1, by omega, by rw [Nat.sub_self, Nat.pow_zero]; omega, by rw [Nat.pow_one]; exact h10⟩
    · obtain ⟨k, hk, h1, h2⟩ := ih (M / 10) (Nat.div_lt_self h (by omega)) (by omega)
      refine ⟨k + 1, by omega, ?_, ?_⟩
      · rw [Nat.add_sub_cancel, show k = (k - 1) + 1 from by omega, Nat.pow_succ]
        rw [Nat.le_div_iff_mul_le (by omega)] at h1
        exact h1
      · rw [Nat.pow_succ]
        rw [Nat.div_lt_iff_lt_mul (by omega)] at h2
        exact h2

theorem bt_strF {n : Nat} {f : Nat → Nat} (hf : ∀ j, j < n → f j < 256) {j : Nat} (hj : j < n) : bt (strF n f) j = f j := by
  unfold bt strF
  simp only [List.getD, List.getElem?_map, List.getElem?_range hj, Option.map_some, Option.getD_some]
  rw [UInt8.toNat_ofNat']
  exact Nat.mod_eq_of_lt (hf j hj)

theorem dval_dig (M k : Nat) : ∀ i, i ≤ k → dval (fun j => dig M (k - 1 - j)) i = M / 10 ^ (k - i) % 10 ^ i
  | 0, _ => by simp [dval, Nat.mod_one]
  | i + 1, h => by
    rw [dval, dval_dig M k i (by omega)]
    have e1 : M / 10 ^ (k - i) = M / 10 ^ (k - (i + 1)) / 10 := by
      rw [Nat.div_div_eq_div_mul, ← Nat.pow_succ]; congr 2; omega
    have e2 : dig M (k - 1 - i) - 48 = M / 10 ^ (k - (i + 1)) % 10 := by
      unfold dig
      rw [show k - 1 - i = k - (i + 1) from by omega]
      omega
    rw [e1, e2]
    generalize M / 10 ^ (k - (i + 1)) = Y
    rw [Nat.pow_succ, Nat.mul_comm (10 ^ i) 10, Nat.mod_mul]
    omega

theorem decS_strF {M : Nat} (h : 0 < M) : ∃ k, 0 < k ∧ 10 ^ (k - 1) ≤ M ∧ M < 10 ^ k ∧ decS M = strF k (fun j => dig M (k - 1 - j)) := by
  obtain ⟨k, h1, h2, h3⟩ := exists_len M h
  exact ⟨k, h1, h2, h3, (strF_dec h1 h2 h3 fun _ _ => rfl).symm⟩

/-- The text of a number above 0 is one, and its value. -/
theorem decS_num {M q : Nat} (h : 0 < M) (hM : M < 10 ^ q) (hq : q ≤ 40000) : IsNum (decS M) ∧ dval (bt (decS M)) (decS M).size = M := by
  obtain ⟨k, h1, h2, h3, h4⟩ := decS_strF h
  have hkq : k ≤ q := by
    have := (Nat.pow_lt_pow_iff_right (show 1 < 10 by omega)).1 (Nat.lt_of_le_of_lt h2 hM)
    omega
  have hd : ∀ j, j < k → bt (decS M) j = dig M (k - 1 - j) := fun j hj => by
    rw [h4]; exact bt_strF (fun i _ => Nat.lt_of_lt_of_le (dig_lt _ _) (by omega)) hj
  have hs : (decS M).size = k := by rw [h4, strF_size]
  refine ⟨⟨by omega, by omega, ?_, fun i hi => ?_⟩, ?_⟩
  · rw [hd 0 h1]
    intro h0
    have := (top_digit (N := M) (k := k) h1 h3).1 (by rw [Nat.sub_zero] at h0; exact h0.1)
    omega
  · rw [hd i (by omega)]
    have := dig_lt M (k - 1 - i)
    have : 48 ≤ dig M (k - 1 - i) := by unfold dig; omega
    omega
  · rw [hs, dval_congr k hd, dval_dig M k k (Nat.le_refl _), Nat.sub_self, Nat.pow_zero, Nat.div_one, Nat.mod_eq_of_lt h3]

/-- A digit more. -/
theorem decS_snoc {N k : Nat} (h : 0 < N) (hk : k < 10) : decS (N * 10 + k) = ⟨(decS N).data ++ #[UInt8.ofNat (48 + k)]⟩ := by
  unfold decS decText
  rw [if_neg (by omega), if_neg (by omega), dec_pos (by omega)]
  rw [show (N * 10 + k) / 10 = N from by omega, show (N * 10 + k) % 10 = k from by omega]
  simp

theorem decS_zero : decS 0 = ⟨#[48]⟩ := by unfold decS decText; rfl
theorem zero_snoc_no (b : UInt8) : ¬ IsNum ⟨#[48, b]⟩ := fun h => h.2.2.1 ⟨rfl, by show 1 < 2; omega⟩
end Go.Proofs.Ytonjecddhbckgaa
