/- Merged of Re. -/
import Derived.Test.YtmlijnobdddmnaaNatC

/- Contracts of the document's own numbers: mul. -/
namespace Go.Proofs.Ytmlijnobdddmnaa
open Go.RowKit

/-- Within mul's inner loop. -/
def RinInv (wr : World) (g sz i k cy a : Nat) (h F F' : Nat → Nat) : Prop :=
  Row .i64 3 wr g sz F' ∧ cy < 256 ∧ (∀ j, j < sz → F' j < 256) ∧ (∀ j, ¬ (i ≤ j ∧ j < i + k) → F' j = F j) ∧
    num 256 (fun j => F' (i + j)) k + cy * 256 ^ k = num 256 (fun j => F (i + j)) k + a * num 256 h k

theorem RinInv.step {wr : World} {g sz i k cy a s : Nat} {h F F' : Nat → Nat} (hi : RinInv wr g sz i k cy a h F F') (hs : s = F' (i + k) + a * h k + cy) (hsl : s < 65536) :
    RinInv (wr.setCell ⟨g, i + k, none⟩ (.int .i64 ((s % 256 : Nat)))) g sz i (k + 1) (s / 256) a h F (upd F' (i + k) (s % 256)) := by
  obtain ⟨h1, h2, h3, h4, h5⟩ := hi
  have e0 : F' (i + k) = F (i + k) := h4 _ (by omega)
  refine ⟨h1.set_ _ _, by omega, fun j hj => ?_, fun j hj => ?_, ?_⟩
  · by_cases hjk : j = i + k
    · subst hjk; rw [upd_same]; omega
    · rw [upd_ne _ _ _ hjk]; exact h3 j hj
  · rw [upd_ne _ _ _ (by omega)]; exact h4 j (by omega)
  · rw [num_succ, num_succ, num_succ, upd_same, num_congr (f' := fun j => F' (i + j)) k (fun j hj => upd_ne _ _ _ (by omega))]
    rw [e0] at hs
    have hd := Nat.div_add_mod s 256
    generalize s % 256 = r at *
    generalize s / 256 = q at *
    have e3 : r * 256 ^ k + q * 256 ^ (k + 1) = (F (i + k) + a * h k + cy) * 256 ^ k := by
      rw [← hs, ← hd, Nat.pow_succ, Nat.add_mul, Nat.add_comm]
      congr 1
      rw [Nat.mul_comm (256 ^ k), ← Nat.mul_assoc, Nat.mul_comm q]
    rw [Nat.add_mul, Nat.add_mul] at e3
    rw [Nat.mul_add, ← Nat.mul_assoc]
    omega

theorem mul_le_8 {a b : Nat} (ha : a < 256) (hb : b < 256) : a * b ≤ 65025 := Nat.mul_le_mul (show a ≤ 255 by omega) (show b ≤ 255 by omega)
theorem mul_int_8 {a b : Nat} (ha : a < 256) (hb : b < 256) : (a : Int) * (b : Int) ≤ 65025 := by
  rw [← Int.natCast_mul]
  have := mul_le_8 ha hb
  omega

end Go.Proofs.Ytmlijnobdddmnaa
