/- Contracts: divShort. -/
import Derived.Test.YtonjecddhbckgaaCc
import Derived.Laws.BitsAllLaws
namespace Go.Proofs.Ytonjecddhbckgaa
open Go.RowKit

/-- After k limbs, from the top, of divShort. -/
def ShortInv (w wr : World) (g o n sz k rest d : Nat) (f f' : Nat → Nat) : Prop :=
  rest < d ∧ Row .u32 41 wr g sz f' ∧ Wr g w wr ∧ (∀ j, ¬ (o + (n - k) ≤ j ∧ j < o + n) → f' j = f j) ∧ (∀ j, o + (n - k) ≤ j → j < o + n → f' j < 4294967296) ∧
    num 4294967296 (fun j => f' (o + (n - k) + j)) k * d + rest = num 4294967296 (fun j => f (o + (n - k) + j)) k

theorem or_shift32 (r a : Nat) (hr : r < 4294967296) (ha : a < 4294967296) : bits BinOp.or IntKind.u64 ((r : Int) * 4294967296) (a : Int) = ((r * 4294967296 + a : Nat) : Int) := by
  have e : (4294967296 : Nat) = 2 ^ 32 := by decide
  rw [show ((r : Int) * 4294967296) = ((r * 4294967296 : Nat) : Int) from by omega, u64_or_nat _ _ (by omega) (by omega)]
  congr 1
  rw [e, Nat.mul_comm]
  exact (Nat.two_pow_add_eq_or_of_lt (by rw [← e]; exact ha) r).symm

theorem ShortInv.step {w wr : World} {g o n sz k rest d : Nat} {f f' : Nat → Nat} (hi : ShortInv w wr g o n sz k rest d f f') (hk : k < n) (hd : d < 4294967296) (hf : f (o + (n - 1 - k)) < 4294967296)
    (x : Int) (hx : x = ((rest * 4294967296 + f' (o + (n - 1 - k))) / d : Nat)) (r' : Nat) (hr' : r' = (rest * 4294967296 + f' (o + (n - 1 - k))) % d) :
    ShortInv w (wr.setCell ⟨g, o + (n - 1 - k), none⟩ (.int .u32 x)) g o n sz (k + 1) r' d f (upd f' (o + (n - 1 - k)) ((rest * 4294967296 + f' (o + (n - 1 - k))) / d)) := by
  subst hx
  obtain ⟨h1, h2, h3, h4, h5, h6⟩ := hi
  have e0 : f' (o + (n - 1 - k)) = f (o + (n - 1 - k)) := h4 _ (by omega)
  have hlt : (rest * 4294967296 + f' (o + (n - 1 - k))) / d < 4294967296 := by
    rw [Nat.div_lt_iff_lt_mul (by omega), e0]
    have : (rest + 1) * 4294967296 ≤ d * 4294967296 := Nat.mul_le_mul_right _ h1
    rw [Nat.mul_comm]
    omega
  refine ⟨by rw [hr']; exact Nat.mod_lt _ (by omega), h2.set_ _ _, h3.setCell _ _, fun j hj => ?_, fun j hj hj' => ?_, ?_⟩
  · rw [upd_ne _ _ _ (by omega)]; exact h4 j (by omega)
  · by_cases hjk : j = o + (n - 1 - k)
    · subst hjk; rw [upd_same]; exact hlt
    · rw [upd_ne _ _ _ (by omega)]; exact h5 j (by omega) hj'
  · have hdm := Nat.div_add_mod (rest * 4294967296 + f' (o + (n - 1 - k))) d
    rw [← hr'] at hdm
    rw [show o + (n - (k + 1)) = o + (n - 1 - k) from by omega, Nat.add_comm k 1, num_add, num_add]
    have e1 : num 4294967296 (fun j => upd f' (o + (n - 1 - k)) ((rest * 4294967296 + f' (o + (n - 1 - k))) / d) (o + (n - 1 - k) + (1 + j))) k = num 4294967296 (fun j => f' (o + (n - k) + j)) k :=
      num_congr k fun j hj => by rw [upd_ne _ _ _ (by omega), show o + (n - 1 - k) + (1 + j) = o + (n - k) + j from by omega]
    have e2 : num 4294967296 (fun j => f (o + (n - 1 - k) + (1 + j))) k = num 4294967296 (fun j => f (o + (n - k) + j)) k :=
      num_congr k fun j hj => by rw [show o + (n - 1 - k) + (1 + j) = o + (n - k) + j from by omega]
    rw [e1, e2, ← h6]
    simp only [num, Nat.pow_zero, Nat.mul_one, Nat.zero_add, Nat.add_zero, upd_same, Nat.pow_one]
    rw [← e0]
    generalize (rest * 4294967296 + f' (o + (n - 1 - k))) / d = Q at *
    generalize num 4294967296 (fun j => f' (o + (n - k) + j)) k = X at *
    rw [Nat.add_mul, Nat.mul_add, Nat.mul_assoc]
    rw [Nat.mul_comm d Q] at hdm
    omega

set_option maxHeartbeats 1000000 in
theorem divShort_any (g o n c sz d : Nat) (f : Nat → Nat) (w : World) (hrow : Row .u32 41 w g sz f) (hsz : o + n ≤ sz) (hd0 : 0 < d) (hd : d < 4294967296)
    (hf : ∀ j, j < n → f (o + j) < 4294967296) (hn : n ≤ 4611686018427387904) :
    Calls Try.prog 50 #[.slice (some ⟨g, o, none⟩) n c, .int .u32 (d : Nat)] w fun e w' => ∃ rest f', e = .returned (.int .u32 (rest : Nat)) ∧ ShortInv w w' g o n sz n rest d f f' := by
  go_enter Try.func50, Try.ntmps50
  go_wp2
  go_loopw [5, 10] (fun v5 v10 wr => ∃ k rest f', k ≤ n ∧ v5 = .int .u64 (rest : Nat) ∧ v10 = .int .i64 (k : Nat) ∧ ShortInv w wr g o n sz k rest d f f') (fun _ v10 _ => n - (intOf v10).toNat)
  case atStart => exact ⟨0, 0, f, Nat.zero_le _, rfl, rfl, hd0, hrow, Wr.refl, fun _ _ => rfl, fun _ h1 h2 => absurd h1 (by omega), by simp [num]⟩
  case round =>
    obtain ⟨k, rest, f', hk, rfl, rfl, hinv⟩ := hrel
    have HF := Lib.hid hf
    clear hf hrow
    by_cases hlt : k < n
    · have hrd : rest < d := hinv.1
      have hcell := hinv.2.1.cell (j := o + (n - 1 - k)) (by omega)
      have hfz := hinv.2.1.frozen (o + (n - 1 - k))
      have b1 : f' (o + (n - 1 - k)) < 4294967296 := by rw [hinv.2.2.2.1 _ (by omega)]; exact HF.out _ (by omega)
      have hor := or_shift32 rest (f' (o + (n - 1 - k))) (by omega) b1
      have HS := fun x hx r' hr' => hinv.step hlt hd (HF.out _ (by omega)) x hx r' hr'
      have hlt2 : (rest * 4294967296 + f' (o + (n - 1 - k))) / d < 4294967296 := by
        rw [Nat.div_lt_iff_lt_mul hd0]
        have : (rest + 1) * 4294967296 ≤ d * 4294967296 := Nat.mul_le_mul_right _ hrd
        rw [Nat.mul_comm]
        omega
      generalize rest * 4294967296 + f' (o + (n - 1 - k)) = N at *
      have hmd : N % d < d := Nat.mod_lt _ hd0
      have HS' := HS _ rfl _ rfl
      have g1 : (N : Int) / (d : Int) = ((N / d : Nat) : Int) := rfl
      have g2 : (N : Int) % (d : Int) = ((N % d : Nat) : Int) := rfl
      generalize N / d = q at *
      generalize N % d = r at *
      have HS2 := Lib.hid HS'
      clear HS HS' hinv
      go_wp2
      go_roundw
      case rel => exact ⟨k + 1, r, _, by omega, by first | rw [g2] | rfl, by go_num, HS2.out⟩
      case measure => simp [intOf]; omega
    · obtain rfl : k = n := by omega
      have hrd : rest < d := hinv.1
      go_wp2
      go_ret
      exact ⟨rest, f', rfl, hinv⟩
end Go.Proofs.Ytonjecddhbckgaa
