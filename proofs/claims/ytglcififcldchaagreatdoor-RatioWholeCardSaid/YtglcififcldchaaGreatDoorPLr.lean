/- Contracts: window, size. -/
import Derived.Test.YtglcififcldchaaGreatDoorPLq
import Derived.IntWalk
namespace Go.Proofs.YtglcififcldchaaGreatDoor
open Go.RowKit

set_option maxHeartbeats 1000000 in
theorem size_any (x : Int) (w : World) (h1 : -9223372036854775807 ≤ x) (h2 : x ≤ 9223372036854775807) :
    Calls Tryz.prog 165 #[.int .i64 x] w fun e w' => e = .returned (.int .i64 (if x < 0 then -x else x)) ∧ w' = w := by
  by_cases h : x < 0
  · rw [if_pos h]
    go_enter Tryz.func165, Tryz.ntmps165
    go_wp2
    go_ret
    exact ⟨rfl, rfl⟩
  · rw [if_neg h]
    go_enter Tryz.func165, Tryz.ntmps165
    go_wp2
    go_ret
    exact ⟨rfl, rfl⟩

set_option maxHeartbeats 2000000 in
theorem window_any (A : Option Addr) (n c s : Nat) (f : Nat → Nat) (w : World) (ha : Rd .u32 w A n f) (hf : ∀ j, j < n → f j < 4294967296) (hs : s ≤ 281474976710656) (hN : num 4294967296 f n / 2 ^ s < 4611686018427387904) :
    Calls Tryz.prog 164 #[.slice A n c, .int .i64 (s : Nat)] w fun e w' => e = .returned (.int .i64 (num 4294967296 f n / 2 ^ s : Nat)) ∧ ∃ k, w' = w.drewN k := by
  obtain ⟨hw1, hw2⟩ := window_num hf hN
  have b0 := limbOf_lt hf (s / 32)
  have b1 := limbOf_lt hf (s / 32 + 1)
  have b2 := limbOf_lt hf (s / 32 + 2)
  have d0 := fun w' (h : Rd .u32 w' A n f) => limb_any A n c (s / 32) f w' h hf
  have d1 := fun w' (h : Rd .u32 w' A n f) => limb_any A n c (s / 32 + 1) f w' h hf
  have d2 := fun w' (h : Rd .u32 w' A n f) => limb_any A n c (s / 32 + 2) f w' h hf
  have hor1 := or_high32 _ _ b0 b1
  have ho : s % 32 < 32 := Nat.mod_lt _ (by omega)
  have hd1 : (s : Int) / 32 = ((s / 32 : Nat) : Int) := rfl
  have hd2 : (s : Int) % 32 = ((s % 32 : Nat) : Int) := rfl
  have hid : s / 32 ≤ 281474976710656 := by omega
  generalize limbOf f n (s / 32) = l0 at *
  generalize limbOf f n (s / 32 + 1) = l1 at *
  generalize limbOf f n (s / 32 + 2) = l2 at *
  generalize num 4294967296 f n / 2 ^ s = X at *
  generalize s / 32 = i at *
  generalize s % 32 = o at *
  obtain ⟨lo, hlo⟩ : ∃ lo, lo = (l0 + l1 * 4294967296) := ⟨_, rfl⟩
  rw [← hlo] at hor1 hw1 hw2
  obtain ⟨a, hae⟩ : ∃ a, a = lo / 2 ^ o := ⟨_, rfl⟩
  rw [← hae] at hw1 hw2
  have hor2 := or_win a l2 (2 ^ (64 - o)) (64 - o) rfl hw2 (by omega)
  have hpc : ((l2 * 2 ^ (64 - o) : Nat) : Int) = (l2 : Int) * 2 ^ (64 - o) := by rw [Int.natCast_mul, Int.natCast_pow]; rfl
  rw [hw1, hpc] at hor2
  have hT : IntKind.u64.wrap ((l2 : Int) * 2 ^ (64 - o)) = (l2 : Int) * 2 ^ (64 - o) := by
    rw [← hpc]
    exact IntWalk.u64_in _ (by omega)
  have hsa : (lo : Int) / 2 ^ o = (a : Int) := by
    rw [hae, show ((2 : Int) ^ o) = ((2 ^ o : Nat) : Int) from by rw [Int.natCast_pow]; rfl]
    rfl
  have h64 : ((64 : Int) - (o : Int)).toNat = 64 - o := by omega
  have hX : (X : Int) < 4611686018427387904 := by omega
  have D0 := Lib.hid d0
  have D1 := Lib.hid d1
  have D2 := Lib.hid d2
  have HA := Lib.hid ha
  clear hpc hf ha d0 d1 d2 hN hae hlo hw2
  go_enter Tryz.func164, Tryz.ntmps164
  go_wp2_with fail
  refine (D0.out _ HA.out).mono ?_
  rintro e w' ⟨rfl, rfl⟩
  go_wp2_with fail
  refine (D1.out _ HA.out).mono ?_
  rintro e w' ⟨rfl, rfl⟩
  have hi2 : IntKind.i64.wrap ((i : Int) + 2) = (i : Int) + 2 := IntWalk.i64_in _ (by omega)
  have hi3 : IntKind.i64.wrap (64 - (o : Int)) = 64 - (o : Int) := IntWalk.i64_in _ (by omega)
  have hi4 : IntKind.i64.wrap (X : Int) = (X : Int) := IntWalk.i64_in _ (by omega)
  go_wp2
  go_quiet ((go_at_call 148; exact Calls.quiet_of_same (D2.out _ HA.out)))
  go_wp2
  go_ret
  exact ⟨rfl, _, rfl⟩
end Go.Proofs.YtglcififcldchaaGreatDoor
