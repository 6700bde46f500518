/- Contracts: putLeast. -/
import Derived.Test.YtonjecddhbckgaaCi
namespace Go.Proofs.Ytonjecddhbckgaa
open Go.RowKit

/-- After i bytes of putLeast. -/
def LeaInv (w wr : World) (g o sz i x : Nat) (f F : Nat → Nat) : Prop :=
  Row .u8 5 wr g sz F ∧ Wr g w wr ∧ (∀ j, j < i → F (o + j) = x / 256 ^ j % 256) ∧ (∀ j, ¬ (o ≤ j ∧ j < o + i) → F j = f j)

theorem LeaInv.step {w wr : World} {g o sz i x : Nat} {f F : Nat → Nat} (hi : LeaInv w wr g o sz i x f F) (y : Int) (hy : y = (x / 256 ^ i % 256 : Nat)) :
    LeaInv w (wr.setCell ⟨g, o + i, none⟩ (.int .u8 y)) g o sz (i + 1) x f (upd F (o + i) (x / 256 ^ i % 256)) := by
  subst hy
  obtain ⟨h1, h2, h3, h4⟩ := hi
  refine ⟨h1.set_ _ _, h2.setCell _ _, fun j hj => ?_, fun j hj => ?_⟩
  · by_cases hji : j = i
    · subst hji; rw [upd_same]
    · rw [upd_ne _ _ _ (by omega)]; exact h3 j (by omega)
  · rw [upd_ne _ _ _ (by omega)]; exact h4 j (by omega)

theorem byte_int (x i : Nat) : (x : Int) / 2 ^ (8 * i) % 256 = ((x / 256 ^ i % 256 : Nat) : Int) := by
  have e : (256 : Nat) ^ i = 2 ^ (8 * i) := by rw [Nat.pow_mul]
  rw [e]
  rw [Int.natCast_emod, Int.natCast_ediv, Int.natCast_pow]
  rfl

set_option maxHeartbeats 1000000 in
theorem putLeast_any (g o k c sz x : Nat) (f : Nat → Nat) (w : World) (hrow : Row .u8 5 w g sz f) (hsz : o + k ≤ sz) (hk : k ≤ 4) :
    Calls Try.prog 59 #[.slice (some ⟨g, o, none⟩) k c, .int .u32 (x : Nat)] w fun e w' => ∃ F, e = .returned (.tuple #[]) ∧ LeaInv w w' g o sz k x f F := by
  go_enter Try.func59, Try.ntmps59
  go_wp2
  go_loopw [7] (fun v7 wr => ∃ i F, i ≤ k ∧ v7 = .int .i64 (i : Nat) ∧ LeaInv w wr g o sz i x f F) (fun v7 _ => k - (intOf v7).toNat)
  case atStart => exact ⟨0, f, Nat.zero_le _, rfl, hrow, Wr.refl, fun _ hj => absurd hj (by omega), fun _ _ => rfl⟩
  case round =>
    obtain ⟨i, F, hi, rfl, hinv⟩ := hrel
    clear hrow
    by_cases hlt : i < k
    · have hcell := hinv.1.cell (j := o + i) (by omega)
      have hfz := hinv.1.frozen (o + i)
      have HI := Lib.hid hinv
      clear hinv
      go_wp2
      go_roundw
      case rel => exact ⟨i + 1, _, by omega, by go_num, HI.out.step _ (byte_int x i)⟩
      case measure => simp [intOf]; omega
    · obtain rfl : i = k := by omega
      have HI := Lib.hid hinv
      clear hinv
      go_wp2
      go_end0
      exact ⟨F, rfl, HI.out⟩
end Go.Proofs.Ytonjecddhbckgaa
