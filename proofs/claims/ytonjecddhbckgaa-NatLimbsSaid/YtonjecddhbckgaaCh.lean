/- Contracts: addTimes. -/
import Derived.Test.YtonjecddhbckgaaCe
import Derived.Test.YtonjecddhbckgaaCc
namespace Go.Proofs.Ytonjecddhbckgaa
open Go.RowKit

/-- After k limbs of addTimes. -/
def TimesInv (w wr : World) (g o sz k cy q : Nat) (f h f' : Nat → Nat) : Prop :=
  cy < 4294967296 ∧ Row .u32 41 wr g sz f' ∧ Wr g w wr ∧ (∀ j, ¬ (o ≤ j ∧ j < o + k) → f' j = f j) ∧ (∀ j, j < k → f' (o + j) < 4294967296) ∧
    num 4294967296 (fun j => f' (o + j)) k + cy * 4294967296 ^ k = num 4294967296 (fun j => f (o + j)) k + q * num 4294967296 h k

theorem mul_le_32 {a b : Nat} (ha : a < 4294967296) (hb : b < 4294967296) : a * b ≤ 18446744065119617025 := by
  have h1 : a * b ≤ 4294967295 * 4294967295 := Nat.mul_le_mul (by omega) (by omega)
  omega

theorem mul_int_32 {a b : Nat} (ha : a < 4294967296) (hb : b < 4294967296) : (a : Int) * (b : Int) ≤ 18446744065119617025 := by
  rw [← Int.natCast_mul]
  have := mul_le_32 ha hb
  omega
theorem mul_int_0 (a b : Nat) : 0 ≤ (a : Int) * (b : Int) := by
  rw [← Int.natCast_mul]
  omega

theorem TimesInv.step {w wr : World} {g o sz k cy q : Nat} {f h f' : Nat → Nat} (hi : TimesInv w wr g o sz k cy q f h f') (hk : o + k < sz) (hf : f (o + k) < 4294967296) (hh : h k < 4294967296) (hq : q < 4294967296)
    (x : Int) (hx : x = ((cy + (f' (o + k) + h k * q)) % 4294967296 : Nat)) (c' : Nat) (hc' : c' = (cy + (f' (o + k) + h k * q)) / 4294967296) :
    TimesInv w (wr.setCell ⟨g, o + k, none⟩ (.int .u32 x)) g o sz (k + 1) c' q f h (upd f' (o + k) ((cy + (f' (o + k) + h k * q)) % 4294967296)) := by
  subst hx
  obtain ⟨h1, h2, h3, h4, h5, h6⟩ := hi
  have e0 : f' (o + k) = f (o + k) := h4 _ (by omega)
  have hm := mul_le_32 hh hq
  refine ⟨by rw [e0] at hc'; omega, h2.set_ _ _, h3.setCell _ _, fun j hj => ?_, fun j hj => ?_, ?_⟩
  · rw [upd_ne _ _ _ (by omega)]; exact h4 j (by omega)
  · by_cases hjk : j = k
    · subst hjk; rw [upd_same]; exact Nat.mod_lt _ (by omega)
    · rw [upd_ne _ _ _ (by omega)]; exact h5 j (by omega)
  · rw [num_succ, num_succ, num_succ, upd_same, num_congr (f' := fun j => f' (o + j)) k (fun j hj => upd_ne _ _ _ (by omega))]
    rw [e0] at hc' ⊢
    have hd := Nat.div_add_mod (cy + (f (o + k) + h k * q)) 4294967296
    rw [← hc'] at hd
    generalize (cy + (f (o + k) + h k * q)) % 4294967296 = r at *
    have e3 : r * 4294967296 ^ k + c' * 4294967296 ^ (k + 1) = (cy + (f (o + k) + h k * q)) * 4294967296 ^ k := by
      rw [← hd, Nat.pow_succ, Nat.add_mul, Nat.add_comm]
      congr 1
      rw [Nat.mul_comm (4294967296 ^ k), ← Nat.mul_assoc, Nat.mul_comm c']
    rw [Nat.add_mul, Nat.add_mul] at e3
    have e4 : q * (num 4294967296 h k + h k * 4294967296 ^ k) = q * num 4294967296 h k + h k * q * 4294967296 ^ k := by
      rw [Nat.mul_add, ← Nat.mul_assoc, Nat.mul_comm q (h k)]
    rw [e4]
    omega

/-- What addTimes leaves. -/
def TimesPost (w w' : World) (e : Ending) (g o sz m q : Nat) (f h : Nat → Nat) : Prop :=
  ∃ cy f', e = .returned (.int .u32 (cy : Nat)) ∧ TimesInv w w' g o sz m cy q f h f'

theorem TimesInv.drewN {w wr : World} {g o sz k cy q : Nat} {f h f' : Nat → Nat} (hi : TimesInv w wr g o sz k cy q f h f') (n : Nat) : TimesInv w (wr.drewN n) g o sz k cy q f h f' := by
  obtain ⟨h1, h2, h3, h4⟩ := hi
  exact ⟨h1, h2, ⟨h3.os, h3.tape, h3.output, h3.size, h3.block⟩, h4⟩

set_option maxHeartbeats 1000000 in
theorem addTimes_any (g o n c : Nat) (B : Option Addr) (m d sz q : Nat) (f h : Nat → Nat) (w : World) (hrow : Row .u32 41 w g sz f) (hsz : o + n ≤ sz) (hmn : m ≤ n) (hq : q < 4294967296)
    (hr : Rd .u32 w B m h) (hoff : 0 < m → Off B g) (hf : ∀ j, j < m → f (o + j) < 4294967296) (hh : ∀ j, j < m → h j < 4294967296) (hn : n ≤ 4611686018427387904) :
    Calls Try.prog 46 #[.slice (some ⟨g, o, none⟩) n c, .slice B m d, .int .u32 (q : Nat)] w fun e w' => TimesPost w w' e g o sz m q f h := by
  go_enter Try.func46, Try.ntmps46
  go_wp2
  go_loopw [7, 11] (fun v7 v11 wr => ∃ k cy f', k ≤ m ∧ v7 = .int .u64 (cy : Nat) ∧ v11 = .int .i64 (k : Nat) ∧ TimesInv w wr g o sz k cy q f h f') (fun _ v11 _ => m - (intOf v11).toNat)
  case atStart => exact ⟨0, 0, f, Nat.zero_le _, rfl, rfl, by omega, hrow, Wr.refl, fun _ _ => rfl, fun _ hj => absurd hj (by omega), by simp [num]⟩
  case round =>
    obtain ⟨k, cy, f', hk, rfl, rfl, hinv⟩ := hrel
    have HH := Lib.hid hh
    have HF := Lib.hid hf
    have HR := Lib.hid hr
    have HO := Lib.hid hoff
    clear hh hf hr hoff hrow
    have hcy : cy < 4294967296 := hinv.1
    by_cases hlt : k < m
    · obtain ⟨ad, rfl, hcell⟩ := (HR.out.wr (HO.out (by omega)) hinv.2.2.1) k hlt
      have hcell2 := hinv.2.1.cell (j := o + k) (by omega)
      have b0 : f (o + k) < 4294967296 := HF.out k hlt
      have b1 : f' (o + k) < 4294967296 := by rw [hinv.2.2.2.1 (o + k) (by omega)]; exact b0
      have b2 : h k < 4294967296 := HH.out k hlt
      have b3 : (h k : Int) * (q : Int) ≤ 18446744065119617025 := mul_int_32 b2 hq
      have b4 : 0 ≤ (h k : Int) * (q : Int) := mul_int_0 _ _
      go_wp2
      go_quiet (fail)
      have hinv2 := hinv.drewN nq
      have hcell3 := hinv2.2.1.cell (j := o + k) (by omega)
      have hfz := hinv2.2.1.frozen (o + k)
      generalize wr.drewN nq = w2 at *
      have HS := Lib.hid (hinv2.step (by omega) b0 b2 hq _ rfl _ rfl)
      clear hinv hinv2 hcell hcell2
      go_wp2
      go_roundw
      case rel => exact ⟨k + 1, _, _, by omega, rfl, by go_num, HS.out⟩
      case measure => simp [intOf]; omega
    · obtain rfl : k = m := by omega
      go_wp2
      go_ret
      exact ⟨cy, f', rfl, hinv⟩
end Go.Proofs.Ytonjecddhbckgaa
