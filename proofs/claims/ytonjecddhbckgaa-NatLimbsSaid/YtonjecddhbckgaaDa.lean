/- Contracts: subTimes. -/
import Derived.Test.YtonjecddhbckgaaCg
import Derived.Test.YtonjecddhbckgaaCk
namespace Go.Proofs.Ytonjecddhbckgaa
open Go.RowKit

/-- After k limbs of subTimes. -/
def StInv (w wr : World) (g o sz k cy q : Nat) (f h f' : Nat → Nat) : Prop :=
  cy < 4294967296 ∧ Row .u32 41 wr g sz f' ∧ Wr g w wr ∧ (∀ j, ¬ (o ≤ j ∧ j < o + k) → f' j = f j) ∧ (∀ j, j < k → f' (o + j) < 4294967296) ∧
    num 4294967296 (fun j => f' (o + j)) k + q * num 4294967296 h k = num 4294967296 (fun j => f (o + j)) k + cy * 4294967296 ^ k

theorem st_carry {P f : Nat} (hP : P ≤ 18446744069414584320) : P / 4294967296 + subC f (P % 4294967296) 0 < 4294967296 := by
  unfold subC
  split <;> omega

theorem StInv.step {w wr : World} {g o sz k cy q : Nat} {f h f' : Nat → Nat} (hi : StInv w wr g o sz k cy q f h f') (hf : f (o + k) < 4294967296) (hh : h k < 4294967296) (hq : q < 4294967296)
    (P : Nat) (hP : P = cy + h k * q) (x : Int) (hx : x = (subD (f' (o + k)) (P % 4294967296) 0 : Nat)) (c' : Nat) (hc' : c' = P / 4294967296 + subC (f' (o + k)) (P % 4294967296) 0) :
    StInv w (wr.setCell ⟨g, o + k, none⟩ (.int .u32 x)) g o sz (k + 1) c' q f h (upd f' (o + k) (subD (f' (o + k)) (P % 4294967296) 0)) := by
  subst hx
  obtain ⟨h1, h2, h3, h4, h5, h6⟩ := hi
  have e0 : f' (o + k) = f (o + k) := h4 _ (by omega)
  have hm := mul_le_32 hh hq
  refine ⟨by rw [hc']; exact st_carry (by omega), h2.set_ _ _, h3.setCell _ _, fun j hj => ?_, fun j hj => ?_, ?_⟩
  · rw [upd_ne _ _ _ (by omega)]; exact h4 j (by omega)
  · by_cases hjk : j = k
    · subst hjk; rw [upd_same]; exact subD_lt _ _ _
    · rw [upd_ne _ _ _ (by omega)]; exact h5 j (by omega)
  · rw [num_succ, num_succ, num_succ, upd_same, num_congr (f' := fun j => f' (o + j)) k (fun j hj => upd_ne _ _ _ (by omega))]
    rw [e0] at hc' ⊢
    have hs := sub_eq (f (o + k)) (P % 4294967296) 0 hf (Nat.mod_lt _ (by omega)) (by omega)
    have hd := Nat.div_add_mod P 4294967296
    generalize subD (f (o + k)) (P % 4294967296) 0 = r at *
    generalize subC (f (o + k)) (P % 4294967296) 0 = ms at *
    generalize P % 4294967296 = lo at *
    generalize P / 4294967296 = hi at *
    have e1 : r + cy + h k * q = f (o + k) + 4294967296 * c' := by omega
    have e2 : (r + cy + h k * q) * 4294967296 ^ k = (f (o + k) + 4294967296 * c') * 4294967296 ^ k := by rw [e1]
    rw [Nat.add_mul, Nat.add_mul, Nat.add_mul] at e2
    have e3 : c' * 4294967296 ^ (k + 1) = 4294967296 * c' * 4294967296 ^ k := by rw [Nat.pow_succ, Nat.mul_comm (4294967296 ^ k), ← Nat.mul_assoc, Nat.mul_comm c']
    have e4 : q * (num 4294967296 h k + h k * 4294967296 ^ k) = q * num 4294967296 h k + h k * q * 4294967296 ^ k := by
      rw [Nat.mul_add, ← Nat.mul_assoc, Nat.mul_comm q (h k)]
    rw [e3, e4]
    omega

set_option maxHeartbeats 1000000 in
theorem subTimes_any (g o n c : Nat) (B : Option Addr) (m d sz q : Nat) (f h : Nat → Nat) (w : World) (hrow : Row .u32 41 w g sz f) (hsz : o + n ≤ sz) (hmn : m ≤ n) (hq : q < 4294967296)
    (hr : Rd .u32 w B m h) (hoff : 0 < m → Off B g) (hf : ∀ j, j < m → f (o + j) < 4294967296) (hh : ∀ j, j < m → h j < 4294967296) (hn : n ≤ 4611686018427387904) :
    Calls Try.prog 72 #[.slice (some ⟨g, o, none⟩) n c, .slice B m d, .int .u32 (q : Nat)] w fun e w' => ∃ cy f', e = .returned (.int .u32 (cy : Nat)) ∧ StInv w w' g o sz m cy q f h f' := by
  go_enter Try.func72, Try.ntmps72
  go_wp2
  go_loopw [7, 13] (fun v7 v13 wr => ∃ k cy f', k ≤ m ∧ v7 = .int .u64 (cy : Nat) ∧ v13 = .int .i64 (k : Nat) ∧ StInv w wr g o sz k cy q f h f') (fun _ v13 _ => m - (intOf v13).toNat)
  case atStart => exact ⟨0, 0, f, Nat.zero_le _, rfl, rfl, by omega, hrow, Wr.refl, fun _ _ => rfl, fun _ hj => absurd hj (by omega), by simp [num]⟩
  case round =>
    obtain ⟨k, cy, f', hk, rfl, rfl, hinv⟩ := hrel
    have HH := Lib.hid hh
    have HF := Lib.hid hf
    have HR := Lib.hid hr
    have HO := Lib.hid hoff
    clear hh hf hr hoff hrow
    have hcy : cy < 4294967296 := hinv.1
    by_cases hlt : k < m
    · obtain ⟨ad, rfl, hcell⟩ := (HR.out.wr (HO.out (by omega)) hinv.2.2.1) k hlt
      have hcell2 := hinv.2.1.cell (j := o + k) (by omega)
      have hfz := hinv.2.1.frozen (o + k)
      have b0 : f (o + k) < 4294967296 := HF.out k hlt
      have b1 : f' (o + k) < 4294967296 := by rw [hinv.2.2.2.1 (o + k) (by omega)]; exact b0
      have b2 : h k < 4294967296 := HH.out k hlt
      obtain ⟨P, hP⟩ : ∃ P, P = cy + h k * q := ⟨_, rfl⟩
      have hPl : P ≤ 18446744069414584320 := by have := mul_le_32 b2 hq; omega
      have hPi : (cy : Int) + (h k : Int) * (q : Int) = (P : Int) := by rw [hP, Int.natCast_add, Int.natCast_mul]
      have b3 : (h k : Int) * (q : Int) ≤ 18446744065119617025 := mul_int_32 b2 hq
      have b4 : 0 ≤ (h k : Int) * (q : Int) := mul_int_0 _ _
      have b5 := subC_le (f' (o + k)) (P % 4294967296) 0
      have b6 := st_carry (f := f' (o + k)) hPl
      have HS := Lib.hid (hinv.step b0 b2 hq P hP _ rfl _ rfl)
      have hml : P % 4294967296 < 4294967296 := Nat.mod_lt _ (by omega)
      have DS : Hid (∀ w2, Calls Try.prog 38 #[.int .u32 (f' (o + k) : Nat), .int .u32 ((P : Int) % 4294967296), .int .u32 0] w2 fun e w' => Sub32Post w2 w' e (f' (o + k)) (P % 4294967296) 0) :=
        fun w2 => sub32_any (f' (o + k)) (P % 4294967296) 0 b1 hml (by omega) w2
      clear hinv hP
      go_wp2_with fail
      refine (DS.out _).mono ?_
      rintro e w2 ⟨rfl, hw⟩
      subst w2
      generalize subC (f' (o + k)) (P % 4294967296) 0 = ms at *
      go_wp2
      go_roundw
      case rel => exact ⟨k + 1, P / 4294967296 + ms, _, by omega, by go_num, by go_num, HS.out⟩
      case measure => simp [intOf]; omega
    · obtain rfl : k = m := by omega
      go_wp2
      go_ret
      exact ⟨cy, f', rfl, hinv⟩
end Go.Proofs.Ytonjecddhbckgaa
