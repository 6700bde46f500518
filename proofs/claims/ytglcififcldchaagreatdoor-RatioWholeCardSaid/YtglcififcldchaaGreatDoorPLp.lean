/- Lehmer's steps: what they keep. Nothing of the program is in here. -/
import Derived.Test.YtglcififcldchaaGreatDoorPNat0
namespace Go.Proofs.YtglcififcldchaaGreatDoor

/-- What some divisions in a row have made of the windows x0, y0: x = s (P x0 - Q y0), y = s (T y0 - R x0). -/
def LI (s x0 y0 x y P Q R T : Int) : Prop :=
  0 ≤ P ∧ 0 ≤ Q ∧ 0 ≤ R ∧ 1 ≤ T ∧ x = s * (P * x0 - Q * y0) ∧ y = s * (T * y0 - R * x0) ∧ P * T - Q * R = s ∧ s * s = 1 ∧ R ≤ T ∧ P ≤ Q + (T - R) ∧ 1 ≤ P + R ∧ 0 ≤ y ∧ y ≤ x
theorem LI.start {x0 y0 : Int} (h0 : 0 ≤ y0) (h : y0 ≤ x0) : LI 1 x0 y0 x0 y0 1 0 0 1 :=
  ⟨by omega, by omega, by omega, by omega, by omega, by omega, by omega, by omega, by omega, by omega, by omega, h0, h⟩
/-- The windows again. -/
theorem LI.back {s x0 y0 x y P Q R T : Int} (h : LI s x0 y0 x y P Q R T) : T * x + Q * y = x0 ∧ R * x + P * y = y0 := by
  obtain ⟨_, _, _, _, h1, h2, h3, h4, _⟩ := h
  constructor
  · have : T * x + Q * y = (s * s) * x0 := by subst h1 h2; rw [← h3]; grind
    rw [this, h4, Int.one_mul]
  · have : R * x + P * y = (s * s) * y0 := by subst h1 h2; rw [← h3]; grind
    rw [this, h4, Int.one_mul]
theorem LI.step {s x0 y0 x y P Q R T k : Int} (h : LI s x0 y0 x y P Q R T) (hk : 1 ≤ k) (hr0 : 0 ≤ x - k * y) (hr1 : x - k * y ≤ y) :
    LI (-s) x0 y0 y (x - k * y) R T (P + k * R) (Q + k * T) := by
  obtain ⟨hP, hQ, hR, hT, h1, h2, h3, h4, h5, h6, h7, h8, h9⟩ := h
  have e1 : 0 ≤ (k - 1) * R := Int.mul_nonneg (by omega) hR
  have e2 : 0 ≤ (k - 1) * (T - R) := Int.mul_nonneg (by omega) (by omega)
  have e3 : (k - 1) * (T - R) = k * T - k * R - T + R := by grind
  have e4 : (k - 1) * R = k * R - R := by grind
  have e5 : 0 ≤ (k - 1) * T := Int.mul_nonneg (by omega) (by omega)
  have e6 : (k - 1) * T = k * T - T := by grind
  refine ⟨hR, by omega, by omega, by omega, ?_, ?_, ?_, ?_, by omega, by omega, by omega, hr0, hr1⟩
  · rw [h2]; grind
  · rw [h1, h2]; grind
  · rw [← h3]; grind
  · grind
/-- What is checked ahead of a step keeps its factors small. -/
theorem LI.small {s x0 y0 x y P Q R T k : Int} (h : LI s x0 y0 x y P Q R T) (hk : 1 ≤ k) (h62 : x0 < 4611686018427387904) (hc1 : Q + k * T ≤ x - k * y) (hc2 : Q + k * T + T ≤ y - (x - k * y)) (hr1 : x - k * y ≤ y) : Q + k * T < 2147483648 := by
  have hs := (h.step hk (by have := h.1; obtain ⟨_, hQ, _, hT, _⟩ := h; have : 0 ≤ k * T := Int.mul_nonneg (by omega) (by omega); omega) hr1).back.1
  obtain ⟨hP, hQ, hR, hT, _⟩ := h
  have hkT : 0 ≤ k * T := Int.mul_nonneg (by omega) (by omega)
  generalize x - k * y = z at *
  generalize hF : Q + k * T = F at *
  have hz : 0 ≤ T * z := Int.mul_nonneg (by omega) (by omega)
  have h1 : F * y ≤ x0 := by omega
  have h2 : F * (2 * F) ≤ F * y := Int.mul_le_mul_of_nonneg_left (by omega) (by omega)
  by_cases hlt : F < 2147483648
  · exact hlt
  · exfalso
    have hge : 2147483648 ≤ F := by omega
    have h3 : 2147483648 * 2147483648 ≤ F * F := Int.mul_le_mul hge hge (by omega) (by omega)
    have h4 : F * (2 * F) = 2 * (F * F) := by grind
    omega
/-- What is checked says the same of the true numbers. -/
theorem LI.truly {s x0 y0 x y P Q R T D a0 b0 : Int} (h : LI s x0 y0 x y P Q R T) (hPQ : P ≤ Q) (hR1 : 1 ≤ R) (hD : 1 ≤ D) (ha : 0 ≤ a0 ∧ a0 < D) (hb : 0 ≤ b0 ∧ b0 < D) (hc1 : T ≤ y) (hc2 : T + Q ≤ x - y) :
    ∃ a b : Int, a = s * (P * (x0 * D + a0) - Q * (y0 * D + b0)) ∧ b = s * (T * (y0 * D + b0) - R * (x0 * D + a0)) ∧ 0 ≤ b ∧ b < a ∧ T * a + Q * b = x0 * D + a0 ∧ R * a + P * b = y0 * D + b0 ∧ a ≤ y0 * D + b0 := by
  obtain ⟨hP, hQ, hR, hT, h1, h2, h3, h4, h5, h6, h7, h8, h9⟩ := h
  obtain ⟨ha0, ha1⟩ := ha
  obtain ⟨hb0, hb1⟩ := hb
  refine ⟨_, _, rfl, rfl, ?_⟩
  have ea : s * (P * (x0 * D + a0) - Q * (y0 * D + b0)) = x * D + s * (P * a0 - Q * b0) := by rw [h1]; grind
  have eb : s * (T * (y0 * D + b0) - R * (x0 * D + a0)) = y * D + s * (T * b0 - R * a0) := by rw [h2]; grind
  have hback1 : T * (s * (P * (x0 * D + a0) - Q * (y0 * D + b0))) + Q * (s * (T * (y0 * D + b0) - R * (x0 * D + a0))) = x0 * D + a0 := by
    have : T * (s * (P * (x0 * D + a0) - Q * (y0 * D + b0))) + Q * (s * (T * (y0 * D + b0) - R * (x0 * D + a0))) = s * (P * T - Q * R) * (x0 * D + a0) := by grind
    rw [this, h3, h4, Int.one_mul]
  have hback2 : R * (s * (P * (x0 * D + a0) - Q * (y0 * D + b0))) + P * (s * (T * (y0 * D + b0) - R * (x0 * D + a0))) = y0 * D + b0 := by
    have : R * (s * (P * (x0 * D + a0) - Q * (y0 * D + b0))) + P * (s * (T * (y0 * D + b0) - R * (x0 * D + a0))) = s * (P * T - Q * R) * (y0 * D + b0) := by grind
    rw [this, h3, h4, Int.one_mul]
  have hs : s = 1 ∨ s = -1 := by
    have : (s - 1) * (s + 1) = 0 := by grind
    rcases Int.mul_eq_zero.1 this with h | h
    · exact .inl (by omega)
    · exact .inr (by omega)
  -- the parts below
  have p1 : 0 ≤ T * b0 ∧ T * b0 ≤ T * (D - 1) := ⟨Int.mul_nonneg (by omega) hb0, Int.mul_le_mul_of_nonneg_left (by omega) (by omega)⟩
  have p2 : 0 ≤ R * a0 ∧ R * a0 ≤ R * (D - 1) := ⟨Int.mul_nonneg hR ha0, Int.mul_le_mul_of_nonneg_left (by omega) hR⟩
  have p3 : R * (D - 1) ≤ T * (D - 1) := Int.mul_le_mul_of_nonneg_right h5 (by omega)
  have p4 : 0 ≤ P * a0 ∧ P * a0 ≤ P * (D - 1) := ⟨Int.mul_nonneg hP ha0, Int.mul_le_mul_of_nonneg_left (by omega) hP⟩
  have p5 : 0 ≤ Q * b0 ∧ Q * b0 ≤ Q * (D - 1) := ⟨Int.mul_nonneg hQ hb0, Int.mul_le_mul_of_nonneg_left (by omega) hQ⟩
  have p6 : P * (D - 1) ≤ Q * (D - 1) := Int.mul_le_mul_of_nonneg_right hPQ (by omega)
  have p7 : T * D ≤ y * D := Int.mul_le_mul_of_nonneg_right hc1 (by omega)
  have p8 : (T + Q) * D ≤ (x - y) * D := Int.mul_le_mul_of_nonneg_right hc2 (by omega)
  have q1 : T * (D - 1) = T * D - T := by grind
  have q2 : Q * (D - 1) = Q * D - Q := by grind
  have q3 : (T + Q) * D = T * D + Q * D := by grind
  have q4 : (x - y) * D = x * D - y * D := by grind
  have hb' : 0 ≤ y * D + s * (T * b0 - R * a0) := by
    rcases hs with rfl | rfl
    · rw [Int.one_mul]; omega
    · rw [Int.neg_mul, Int.one_mul]; omega
  have hab : y * D + s * (T * b0 - R * a0) < x * D + s * (P * a0 - Q * b0) := by
    rcases hs with rfl | rfl
    · rw [Int.one_mul, Int.one_mul]; omega
    · rw [Int.neg_mul, Int.one_mul, Int.neg_mul, Int.one_mul]; omega
  rw [← ea, ← eb] at hab
  rw [← eb] at hb'
  refine ⟨hb', hab, hback1, hback2, ?_⟩
  generalize s * (P * (x0 * D + a0) - Q * (y0 * D + b0)) = a at *
  generalize s * (T * (y0 * D + b0) - R * (x0 * D + a0)) = b at *
  have r1 : 1 * a ≤ R * a := Int.mul_le_mul_of_nonneg_right hR1 (by omega)
  have r2 : 0 ≤ P * b := Int.mul_nonneg hP hb'
  omega
/-- Such numbers have the same divisors in common. -/
theorem gcd_same {s P Q R T A B a b : Int} (ha : a = s * (P * A - Q * B)) (hb : b = s * (T * B - R * A)) (hA : T * a + Q * b = A) (hB : R * a + P * b = B) : Int.gcd a b = Int.gcd A B := by
  have d1 : (Int.gcd a b : Int) ∣ A := by
    rw [← hA]
    exact Int.dvd_add (Int.dvd_mul_of_dvd_right (Int.gcd_dvd_left ..)) (Int.dvd_mul_of_dvd_right (Int.gcd_dvd_right ..))
  have d2 : (Int.gcd a b : Int) ∣ B := by
    rw [← hB]
    exact Int.dvd_add (Int.dvd_mul_of_dvd_right (Int.gcd_dvd_left ..)) (Int.dvd_mul_of_dvd_right (Int.gcd_dvd_right ..))
  have d3 : (Int.gcd A B : Int) ∣ a := by
    rw [ha]
    exact Int.dvd_mul_of_dvd_right (Int.dvd_sub (Int.dvd_mul_of_dvd_right (Int.gcd_dvd_left ..)) (Int.dvd_mul_of_dvd_right (Int.gcd_dvd_right ..)))
  have d4 : (Int.gcd A B : Int) ∣ b := by
    rw [hb]
    exact Int.dvd_mul_of_dvd_right (Int.dvd_sub (Int.dvd_mul_of_dvd_right (Int.gcd_dvd_right ..)) (Int.dvd_mul_of_dvd_right (Int.gcd_dvd_left ..)))
  exact Nat.dvd_antisymm (Int.natCast_dvd_natCast.1 (Int.dvd_coe_gcd d1 d2)) (Int.natCast_dvd_natCast.1 (Int.dvd_coe_gcd d3 d4))
end Go.Proofs.YtglcififcldchaaGreatDoor
