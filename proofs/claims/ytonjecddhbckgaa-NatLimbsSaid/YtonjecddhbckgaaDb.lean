/- Contracts: shiftUp. -/
import Derived.Test.YtonjecddhbckgaaCk
namespace Go.Proofs.Ytonjecddhbckgaa
open Go.RowKit

/-- After k limbs of shiftUp. -/
def UpInv (w wr : World) (sz k cy s : Nat) (f F : Nat → Nat) : Prop :=
  cy < 2 ^ s ∧ Row .u32 41 wr w.heap.size sz F ∧ Below w.heap.size w wr ∧ (∀ j, j < k → F j < 4294967296) ∧
    num 4294967296 F k + cy * 4294967296 ^ k = 2 ^ s * num 4294967296 f k

theorem shl_int (a s : Nat) (ha : a < 4294967296) (hs : s < 32) : IntKind.u64.wrap ((a : Int) * 2 ^ s) = ((a * 2 ^ s : Nat) : Int) := by
  have h1 : 2 ^ s ≤ 2147483648 := Nat.le_trans (Nat.pow_le_pow_right (by omega) (show s ≤ 31 by omega)) (by decide)
  have h2 : a * 2 ^ s ≤ 4294967295 * 2147483648 := Nat.mul_le_mul (by omega) h1
  rw [show ((a : Int) * 2 ^ s) = ((a * 2 ^ s : Nat) : Int) from by rw [Int.natCast_mul, Int.natCast_pow]; rfl]
  exact IntWalk.u64_in _ ⟨by omega, by omega⟩
theorem or_low (a b s : Nat) (ha : a < 4294967296) (hs : s < 32) (hb : b < 2 ^ s) : bits BinOp.or IntKind.u64 (b : Int) ((a * 2 ^ s : Nat) : Int) = ((b + a * 2 ^ s : Nat) : Int) := by
  have h1 : 2 ^ s ≤ 2147483648 := Nat.le_trans (Nat.pow_le_pow_right (by omega) (show s ≤ 31 by omega)) (by decide)
  have h2 : a * 2 ^ s ≤ 4294967295 * 2147483648 := Nat.mul_le_mul (by omega) h1
  rw [u64_or_nat _ _ (by omega) (by omega)]
  congr 1
  rw [Nat.or_comm, Nat.add_comm, Nat.mul_comm]
  exact (Nat.two_pow_add_eq_or_of_lt hb a).symm

theorem UpInv.step {w wr : World} {sz k cy s : Nat} {f F : Nat → Nat} (hi : UpInv w wr sz k cy s f F) (hf : f k < 4294967296) (Y : Nat) (hY : Y = cy + f k * 2 ^ s) (x : Int) (hx : x = (Y % 4294967296 : Nat)) :
    UpInv w (wr.setCell ⟨w.heap.size, k, none⟩ (.int .u32 x)) sz (k + 1) (Y / 4294967296) s f (upd F k (Y % 4294967296)) := by
  subst hx
  obtain ⟨h1, h2, h3, h4, h5⟩ := hi
  refine ⟨?_, h2.set_ _ _, h3.setCell (Nat.le_refl _) _, fun j hj => ?_, ?_⟩
  · rw [Nat.div_lt_iff_lt_mul (by omega), hY]
    have : (f k + 1) * 2 ^ s ≤ 4294967296 * 2 ^ s := Nat.mul_le_mul_right _ hf
    rw [Nat.add_mul, Nat.one_mul] at this
    rw [Nat.mul_comm (2 ^ s)]
    omega
  · by_cases hjk : j = k
    · subst hjk; rw [upd_same]; omega
    · rw [upd_ne _ _ _ hjk]; exact h4 j (by omega)
  · rw [num_succ, num_succ, upd_same, num_upd _ _ (Nat.le_refl _)]
    have hd := Nat.div_add_mod Y 4294967296
    generalize Y % 4294967296 = r at *
    generalize Y / 4294967296 = q at *
    have e3 : r * 4294967296 ^ k + q * 4294967296 ^ (k + 1) = (cy + f k * 2 ^ s) * 4294967296 ^ k := by
      rw [← hY, ← hd, Nat.pow_succ, Nat.add_mul, Nat.add_comm]
      congr 1
      rw [Nat.mul_comm (4294967296 ^ k), ← Nat.mul_assoc, Nat.mul_comm q]
    rw [Nat.add_mul] at e3
    rw [Nat.mul_add, ← Nat.mul_assoc, Nat.mul_comm (2 ^ s) (f k)]
    omega

set_option maxHeartbeats 1000000 in
theorem shiftUp_any (A : Option Addr) (n c s : Nat) (f : Nat → Nat) (w : World) (ha : Rd .u32 w A n f) (hs : s < 32) (hn : n ≤ 8796093022208) (hf : ∀ j, j < n → f j < 4294967296) :
    Calls Try.prog 65 #[.slice A n c, .int .i64 (s : Nat)] w fun e w' => ∃ F, e = .returned (.slice (some ⟨w.heap.size, 0, none⟩) (n + 1) (n + 1)) ∧ Row .u32 41 w' w.heap.size (n + 1) F ∧ Below w.heap.size w w' ∧ (∀ j, j < n + 1 → F j < 4294967296) ∧ num 4294967296 F (n + 1) = 2 ^ s * num 4294967296 f n := by
  have HA := Lib.hid ha
  have HF := Lib.hid hf
  clear ha hf
  go_enter Try.func65, Try.ntmps65
  go_wp2_with (at_make; refine wpList_make_row rfl _ _ 22 rfl .u32 41 Try.underlying22 4 u32_info (by omega) .i64 .i64 _ _ (n + 1) rfl rfl (by omega) (by omega) (by omega) ?_; intro w1 hrow1 hb1 hs1)
  have HR1 := Lib.hid hrow1
  have HB1 := Lib.hid hb1
  clear hrow1 hb1
  go_loopw [6, 14] (fun v6 v14 wr => ∃ k cy F, k ≤ n ∧ v6 = .int .u64 (cy : Nat) ∧ v14 = .int .i64 (k : Nat) ∧ UpInv w wr (n + 1) k cy s f F) (fun _ v14 _ => n - (intOf v14).toNat)
  case atStart => exact ⟨0, 0, _, Nat.zero_le _, rfl, rfl, Nat.pow_pos (by omega), HR1.out, HB1.out, fun _ hj => absurd hj (by omega), by simp [num]⟩
  case round =>
    obtain ⟨k, cy, F, hk, rfl, rfl, hinv⟩ := hrel
    clear HR1 HB1
    by_cases hlt : k < n
    · obtain ⟨ad, rfl, hcell⟩ := (HA.out.below hinv.2.2.1) k hlt
      have hcell2 := hinv.2.1.cell (j := k) (by omega)
      have hfz := hinv.2.1.frozen k
      have b0 := HF.out k hlt
      have HI := Lib.hid hinv
      clear hinv
      have hcy := HI.out.1
      have hsh := shl_int (f k) s b0 hs
      have hor := or_low (f k) cy s b0 hs hcy
      obtain ⟨X, hX⟩ : ∃ X, X = f k * 2 ^ s := ⟨_, rfl⟩
      rw [← hX] at hsh hor
      obtain ⟨Y, hY⟩ : ∃ Y, Y = cy + X := ⟨_, rfl⟩
      rw [← hY] at hor
      have HS := Lib.hid (HI.out.step b0 Y (by rw [hY, hX]) _ rfl)
      clear hX hY hcy
      go_wp2
      go_roundw
      case rel => exact ⟨k + 1, Y / 4294967296, _, by omega, by go_num, by go_num, HS.out⟩
      case measure => simp [intOf]; omega
    · obtain rfl : k = n := by omega
      have hcell2 := hinv.2.1.cell (j := k) (by omega)
      have hfz := hinv.2.1.frozen k
      have hcy : cy < 4294967296 := Nat.lt_of_lt_of_le hinv.1 (Nat.le_trans (Nat.pow_le_pow_right (by omega) (show s ≤ 31 by omega)) (by decide))
      have HI := Lib.hid hinv
      clear hinv
      go_wp2
      go_ret
      obtain ⟨i1, i2, i3, i4, i5⟩ := HI.out
      refine ⟨_, rfl, i2.set_ k cy, i3.setCell (Nat.le_refl _) _, fun j hj => ?_, ?_⟩
      · by_cases hjk : j = k
        · subst hjk; rw [upd_same]; exact hcy
        · rw [upd_ne _ _ _ hjk]; exact i4 j (by omega)
      · rw [num_succ, upd_same, num_upd _ _ (Nat.le_refl _)]; exact i5
end Go.Proofs.Ytonjecddhbckgaa
