/- Windows of long numbers; what Lehmer's steps make of digits. Nothing of the program is in here. -/
import Derived.Test.YtglcififcldchaaGreatDoorPNatA
import Derived.Test.YtglcififcldchaaGreatDoorPLp
namespace Go.Proofs.YtglcififcldchaaGreatDoor

theorem limb_at : ∀ (i : Nat) (f : Nat → Nat) (n : Nat), (∀ j, j < n → f j < 4294967296) → num 4294967296 f n / 4294967296 ^ i % 4294967296 = limbOf f n i
  | 0, f, n, hf => by
    rcases Nat.eq_zero_or_pos n with h | h
    · subst h; simp [num, limbOf]
    · rw [Nat.pow_zero, Nat.div_one, num_first h, Nat.add_mul_mod_self_left, Nat.mod_eq_of_lt (hf 0 h)]
      unfold limbOf; rw [if_pos h]
  | i + 1, f, n, hf => by
    rcases Nat.eq_zero_or_pos n with h | h
    · subst h; simp [num, limbOf]
    · have e : num 4294967296 f n / 4294967296 ^ (i + 1) = num 4294967296 (fun j => f (j + 1)) (n - 1) / 4294967296 ^ i := by
        rw [Nat.pow_succ, Nat.mul_comm, ← Nat.div_div_eq_div_mul, num_first h, Nat.add_mul_div_left _ _ (by omega), Nat.div_eq_of_lt (hf 0 h), Nat.zero_add]
      rw [e, limb_at i _ (n - 1) (fun j hj => hf (j + 1) (by omega))]
      unfold limbOf
      by_cases hi : i < n - 1
      · rw [if_pos hi, if_pos (by omega)]
      · rw [if_neg hi, if_neg (by omega)]
theorem limb_split (i : Nat) (f : Nat → Nat) (n : Nat) (hf : ∀ j, j < n → f j < 4294967296) :
    num 4294967296 f n / 4294967296 ^ i = limbOf f n i + 4294967296 * (num 4294967296 f n / 4294967296 ^ (i + 1)) := by
  have h := limb_at i f n hf
  rw [Nat.pow_succ, ← Nat.div_div_eq_div_mul]
  omega
/-- The bits from s on. -/
theorem window_num {f : Nat → Nat} {n s : Nat} (hf : ∀ j, j < n → f j < 4294967296) (hN : num 4294967296 f n / 2 ^ s < 4611686018427387904) :
    (limbOf f n (s / 32) + limbOf f n (s / 32 + 1) * 4294967296) / 2 ^ (s % 32) + limbOf f n (s / 32 + 2) * 2 ^ (64 - s % 32) = num 4294967296 f n / 2 ^ s ∧
    (limbOf f n (s / 32) + limbOf f n (s / 32 + 1) * 4294967296) / 2 ^ (s % 32) < 2 ^ (64 - s % 32) := by
  have h0 := limbOf_lt hf (s / 32)
  have h1 := limbOf_lt hf (s / 32 + 1)
  have e0 := limb_split (s / 32) f n hf
  have e1 := limb_split (s / 32 + 1) f n hf
  have e2 := limb_split (s / 32 + 1 + 1) f n hf
  have hs : s % 32 < 32 := Nat.mod_lt _ (by omega)
  have es : 2 ^ s = 4294967296 ^ (s / 32) * 2 ^ (s % 32) := by
    rw [show (4294967296 : Nat) = 2 ^ 32 from by decide, ← Nat.pow_mul, ← Nat.pow_add]
    congr 1
    omega
  have hS : 2 ^ (s % 32) * 2 ^ (64 - s % 32) = 18446744073709551616 := by
    rw [← Nat.pow_add, show s % 32 + (64 - s % 32) = 64 from by omega]
  have hSl : 2 ^ (s % 32) ≤ 2147483648 := Nat.le_trans (Nat.pow_le_pow_right (by omega) (show s % 32 ≤ 31 by omega)) (by decide)
  have hS0 : 0 < 2 ^ (s % 32) := Nat.pow_pos (by omega)
  rw [es, ← Nat.div_div_eq_div_mul] at hN ⊢
  rw [show s / 32 + 2 = s / 32 + 1 + 1 from rfl]
  generalize 2 ^ (s % 32) = S at *
  generalize 2 ^ (64 - s % 32) = T at *
  generalize limbOf f n (s / 32) = l0 at *
  generalize limbOf f n (s / 32 + 1) = l1 at *
  generalize limbOf f n (s / 32 + 1 + 1) = l2 at *
  generalize num 4294967296 f n / 4294967296 ^ (s / 32 + 1 + 1 + 1) = M3 at *
  generalize num 4294967296 f n / 4294967296 ^ (s / 32 + 1 + 1) = M2 at *
  generalize num 4294967296 f n / 4294967296 ^ (s / 32 + 1) = M1 at *
  generalize num 4294967296 f n / 4294967296 ^ (s / 32) = M at *
  have hM : M < 4611686018427387904 * S := (Nat.div_lt_iff_lt_mul hS0).1 hN
  have h3 : M3 = 0 := by omega
  subst h3
  have eM : M = l0 + l1 * 4294967296 + S * (l2 * T) := by
    have : S * (l2 * T) = l2 * 18446744073709551616 := by rw [← hS, ← Nat.mul_assoc, Nat.mul_comm S l2, Nat.mul_assoc]
    omega
  constructor
  · rw [eM, Nat.add_mul_div_left _ _ hS0]
  · rw [Nat.div_lt_iff_lt_mul hS0, Nat.mul_comm T, hS]
    omega
/-- The shift that leaves 62 bits. -/
theorem window_top {f : Nat → Nat} {k z : Nat} (hk : 2 ≤ k) (hf : ∀ j, j < k + 1 → f j < 4294967296) (hz : z < 32) (h2 : f k * 2 ^ z < 4294967296) :
    num 4294967296 f (k + 1) / 2 ^ (32 * (k + 1) - z - 62) < 4611686018427387904 := by
  have hl := num_lt (B := 4294967296) (f := f) (by omega) k (fun j hj => hf j (by omega))
  have hp : 0 < 2 ^ z := Nat.pow_pos (by omega)
  have e1 : (4294967296 : Nat) = 2 ^ (32 - z) * 2 ^ z := by rw [← Nat.pow_add, show 32 - z + z = 32 from by omega]
  have h3 : f k + 1 ≤ 2 ^ (32 - z) := by
    rw [e1] at h2
    have := Nat.lt_of_mul_lt_mul_right h2
    omega
  have h4 : num 4294967296 f (k + 1) < 2 ^ (32 - z) * 4294967296 ^ k := by
    rw [num_succ]
    have : (f k + 1) * 4294967296 ^ k ≤ 2 ^ (32 - z) * 4294967296 ^ k := Nat.mul_le_mul_right _ h3
    rw [Nat.add_mul, Nat.one_mul] at this
    omega
  rw [Nat.div_lt_iff_lt_mul (Nat.pow_pos (by omega)), show (4611686018427387904 : Nat) = 2 ^ 62 from by decide, ← Nat.pow_add]
  refine Nat.lt_of_lt_of_le h4 ?_
  rw [show (4294967296 : Nat) = 2 ^ 32 from by decide, ← Nat.pow_mul, ← Nat.pow_add]
  exact Nat.pow_le_pow_right (by omega) (by omega)
theorem or_win (a b T k : Nat) (hT : T = 2 ^ k) (ha : a < T) (hb : a + b * T < 18446744073709551616) : Go.bits Go.BinOp.or Go.IntKind.u64 (a : Int) ((b * T : Nat) : Int) = ((a + b * T : Nat) : Int) := by
  subst hT
  rw [u64_or_nat _ _ (by omega) (by omega)]
  congr 1
  rw [Nat.or_comm, Nat.add_comm, Nat.mul_comm b]
  exact (Nat.two_pow_add_eq_or_of_lt ha b).symm
end Go.Proofs.YtglcififcldchaaGreatDoor
