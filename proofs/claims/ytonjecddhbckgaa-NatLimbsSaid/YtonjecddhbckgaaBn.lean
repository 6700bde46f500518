/- Contracts: bits.Len32, bits.LeadingZeros32. -/
import Derived.Test.YtonjecddhbckgaaKn
import Derived.Lib.BitFns
import Derived.Lib.ItoaNum
namespace Go.Proofs.Ytonjecddhbckgaa
open Go.RowKit

set_option maxHeartbeats 4000000 in
set_option maxRecDepth 100000 in
theorem len32_any (x : Int) (w : World) (h0 : 0 ≤ x) (h1 : x ≤ 4294967295) :
    Calls Try.prog 70 #[.int .u32 x] w fun e w' => e = .returned (.int .i64 (Lib.bitLen x.toNat)) ∧ w' = w := by
  rcases Int.lt_or_le x 65536 with c1 | c1
  · rcases Int.lt_or_le x 256 with c2 | c2
    · have d0 : 0 ≤ x := by omega
      have d1 : x ≤ 255 := by omega
      have d2 := Lib.hid (Lib.len8_of (x) d0 d1)
      have d3 := Lib.hid (Lib.bitLen_le8' (x) d0 d1)
      go_enter Try.func70, Try.ntmps70
      go_wp2
      go_ret
      refine ⟨congrArg Ending.returned (congrArg (Value.int IntKind.i64) ?_), rfl⟩
      have k2 := d2.out
      have k3 := d3.out
      rw [k2]
      simp only [wrap64]
      omega
    · have d0 : 0 ≤ x / 256 := by omega
      have d1 : x / 256 ≤ 255 := by omega
      have d2 := Lib.hid (Lib.len8_of (x / 256) d0 d1)
      have d3 := Lib.hid (Lib.bitLen_le8' (x / 256) d0 d1)
      have d4 := Lib.hid (Lib.bitLen_shift8 x.toNat (by omega) (by omega))
      have d5 : (x / 256).toNat = x.toNat / 256 := by omega
      have D5 := Lib.hid d5
      clear d5
      go_enter Try.func70, Try.ntmps70
      go_wp2
      go_ret
      refine ⟨congrArg Ending.returned (congrArg (Value.int IntKind.i64) ?_), rfl⟩
      have k2 := d2.out
      have k3 := d3.out
      have k4 := d4.out
      rw [D5.out] at k2 k3
      rw [k2]
      simp only [wrap64]
      omega
  · rcases Int.lt_or_le x 16777216 with c2 | c2
    · have d0 : 0 ≤ x / 65536 := by omega
      have d1 : x / 65536 ≤ 255 := by omega
      have d2 := Lib.hid (Lib.len8_of (x / 65536) d0 d1)
      have d3 := Lib.hid (Lib.bitLen_le8' (x / 65536) d0 d1)
      have d4 := Lib.hid (Lib.bitLen_shift16 x.toNat (by omega) (by omega))
      have d5 : (x / 65536).toNat = x.toNat / 65536 := by omega
      have D5 := Lib.hid d5
      clear d5
      go_enter Try.func70, Try.ntmps70
      go_wp2
      go_ret
      refine ⟨congrArg Ending.returned (congrArg (Value.int IntKind.i64) ?_), rfl⟩
      have k2 := d2.out
      have k3 := d3.out
      have k4 := d4.out
      rw [D5.out] at k2 k3
      rw [k2]
      simp only [wrap64]
      omega
    · have d0 : 0 ≤ x / 65536 / 256 := by omega
      have d1 : x / 65536 / 256 ≤ 255 := by omega
      have d2 := Lib.hid (Lib.len8_of (x / 65536 / 256) d0 d1)
      have d3 := Lib.hid (Lib.bitLen_le8' (x / 65536 / 256) d0 d1)
      have d4 := Lib.hid (Lib.bitLen_shift24 x.toNat (by omega) (by omega))
      have d5 : (x / 65536 / 256).toNat = x.toNat / 16777216 := by omega
      have D5 := Lib.hid d5
      clear d5
      go_enter Try.func70, Try.ntmps70
      go_wp2
      go_ret
      refine ⟨congrArg Ending.returned (congrArg (Value.int IntKind.i64) ?_), rfl⟩
      have k2 := d2.out
      have k3 := d3.out
      have k4 := d4.out
      rw [D5.out] at k2 k3
      rw [k2]
      simp only [wrap64]
      omega

theorem lead_bounds (x : Nat) (hx : x < 4294967296) (h0 : 0 < x) : ∃ s, Lib.bitLen x + s = 32 ∧ s < 32 ∧ 2147483648 ≤ x * 2 ^ s ∧ x * 2 ^ s < 4294967296 := by
  obtain ⟨h1, h2, h3⟩ := Lib.bitLenAux_bounds 64 x (by omega) (by omega)
  have h4 := Lib.bitLen_le x 32 (by omega) (by omega)
  have h5 : Lib.bitLen x = Lib.bitLenAux 64 x := rfl
  rw [← h5] at h1 h2 h3
  generalize Lib.bitLen x = b at *
  refine ⟨32 - b, by omega, by omega, ?_, ?_⟩
  · have : 2 ^ (b - 1) * 2 ^ (32 - b) ≤ x * 2 ^ (32 - b) := Nat.mul_le_mul_right _ h2
    rw [← Nat.pow_add, show b - 1 + (32 - b) = 31 from by omega] at this
    omega
  · have : x * 2 ^ (32 - b) < 2 ^ b * 2 ^ (32 - b) := Nat.mul_lt_mul_of_pos_right h3 (Nat.pow_pos (by omega))
    rw [← Nat.pow_add, show b + (32 - b) = 32 from by omega] at this
    omega

theorem lead_any (x : Nat) (w : World) (hx : x < 4294967296) (h0 : 0 < x) :
    Calls Try.prog 64 #[.int .u32 (x : Nat)] w fun e w' => (∃ s, e = .returned (.int .i64 (s : Nat)) ∧ s < 32 ∧ 2147483648 ≤ x * 2 ^ s ∧ x * 2 ^ s < 4294967296) ∧ w' = w := by
  have L := len32_any (x : Nat) w (by omega) (by omega)
  obtain ⟨s, h1, h2, h3, h4⟩ := lead_bounds x hx h0
  have H := Lib.hid (show ∃ s, (32 : Int) - (Lib.bitLen x : Int) = (s : Nat) ∧ s < 32 ∧ 2147483648 ≤ x * 2 ^ s ∧ x * 2 ^ s < 4294967296 from ⟨s, by omega, h2, h3, h4⟩)
  have hb : Lib.bitLen x ≤ 32 := by omega
  rw [Int.toNat_natCast] at L
  clear h3 h4
  generalize Lib.bitLen x = b at *
  go_enter Try.func64, Try.ntmps64
  go_wp2_with fail
  refine L.mono ?_
  rintro e w' ⟨rfl, rfl⟩
  go_wp2
  go_ret
  obtain ⟨s, h1, h2, h3, h4⟩ := H.out
  exact ⟨⟨s, by rw [h1]; rfl, h2, h3, h4⟩, rfl⟩
end Go.Proofs.Ytonjecddhbckgaa
