/- Contracts: Same, Cmp. -/
import Derived.Test.YtonjecddhbckgaaCa
import Derived.BigGuardPart
namespace Go.Proofs.Ytonjecddhbckgaa
open Go.RowKit

theorem Below.drewN_ {w wr : World} {B : Nat} (h : Below B w wr) (n : Nat) : Below B w (wr.drewN n) := ⟨h.os, h.tape, h.output, h.size, h.block⟩
theorem Below.drew_ {w wr : World} {B : Nat} (h : Below B w wr) : Below B w wr.drew := ⟨h.os, h.tape, h.output, h.size, h.block⟩

set_option maxHeartbeats 1000000 in
theorem same_true (A : Option Addr) (n c : Nat) (f : Nat → Nat) (B : Option Addr) (d : Nat) (h : Nat → Nat) (w : World) (ha : Rd .u32 w A n f) (hb : Rd .u32 w B n h) (hn : n ≤ 4611686018427387904) (he : ∀ j, j < n → f j = h j) :
    Calls Try.prog 15 #[.slice A n c, .slice B n d] w fun e w' => e = .returned (.bool true) ∧ Below w.heap.size w w' := by
  go_enter Try.func15, Try.ntmps15
  go_wp2
  go_loopw [5] (fun v wr => ∃ k : Nat, k ≤ n ∧ v = .int .i64 k ∧ Below w.heap.size w wr) (fun v _ => n - (intOf v).toNat)
  case atStart => exact ⟨0, Nat.zero_le _, rfl, Below.refl _ _⟩
  case round =>
    obtain ⟨k, hk, rfl, hbl⟩ := hrel
    have HA := Lib.hid ha
    have HB := Lib.hid hb
    have HE := Lib.hid he
    clear ha hb he
    by_cases hlt : k < n
    · obtain ⟨ad, rfl, hc1⟩ := (HA.out.below hbl) k hlt
      obtain ⟨bd, rfl, hc2⟩ := (HB.out.below hbl) k hlt
      rw [← HE.out k hlt] at hc2
      go_wp2
      go_quiet (fail)
      go_wp2
      go_roundw
      case rel => exact ⟨k + 1, by omega, by go_num, Below.drewN_ hbl _⟩
      case measure => simp [intOf]; omega
    · go_wp2
      go_ret
      exact ⟨rfl, hbl⟩
end Go.Proofs.Ytonjecddhbckgaa
