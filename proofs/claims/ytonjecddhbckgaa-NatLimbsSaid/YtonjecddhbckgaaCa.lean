/- Contracts: cut, sign, Trim, Cmp. -/
import Derived.Test.YtonjecddhbckgaaRows
import Derived.Test.YtonjecddhbckgaaMem
import Derived.WalkKit
import Derived.WalkSpells
import Derived.BigQuiet
import Derived.Deep.QuietTactic
namespace Go.Proofs.Ytonjecddhbckgaa
open Go.RowKit

set_option maxHeartbeats 400000 in
theorem sign_any (b : Bool) (w : World) :
    Calls Try.prog 42 #[.bool b] w fun e w' => e = .returned (.int .i64 (if b then -1 else 1)) ∧ w = w' := by
  cases b
  · go_enter Try.func42, Try.ntmps42
    go_wp2
    go_ret
    exact ⟨rfl, rfl⟩
  · go_enter Try.func42, Try.ntmps42
    go_wp2
    go_ret
    exact ⟨rfl, rfl⟩

set_option maxHeartbeats 400000 in
theorem cut_any (A : Option Addr) (n c : Nat) (f : Nat → Nat) (w : World) (hr : Rd .u32 w A n f) (hc : n ≤ c) (hm : n ≤ 4611686018427387904) :
    Calls Try.prog 37 #[.slice A n c] w fun e w' => e = .returned (.slice A (tlen f n) c) ∧ w = w' := by
  go_enter Try.func37, Try.ntmps37
  go_wp2
  go_loop [3] (fun v => ∃ k : Nat, k ≤ n ∧ v = .int .i64 k ∧ ∀ j, k ≤ j → j < n → f j = 0) (fun v => (intOf v).toNat)
  case atStart => exact ⟨n, Nat.le_refl _, rfl, fun j hj hj' => absurd hj (by omega)⟩
  case round =>
    obtain ⟨k, hk, rfl, hz⟩ := hrel
    have HR := Lib.hid hr
    have HZ := Lib.hid hz
    clear hr hz
    by_cases h0 : k = 0
    · subst h0
      have g1 : decide ((0 : Int) < ((0 : Nat) : Int)) = false := by decide
      go_wp2
      go_ret
      rw [tlen_eq hk HZ.out (.inl rfl)]
      exact ⟨rfl, rfl⟩
    · have hp : 0 < k := by omega
      obtain ⟨ad, rfl, hcell⟩ := HR.out (k - 1) (by omega)
      by_cases hx : f (k - 1) = 0
      · rw [hx] at hcell
        have HX := Lib.hid hx
        clear hx h0
        go_wp2
        go_round
        case rel => exact ⟨k - 1, by omega, by go_num, fun j h1 h2 => by
          by_cases hjk : j = k - 1
          · subst hjk; exact HX.out
          · exact HZ.out j (by omega) h2⟩
        case measure => simp [intOf]; omega
      · have g2 : ((f (k - 1) : Int) == 0) = false := by
          rw [beq_eq_false_iff_ne]; omega
        have HX := Lib.hid hx
        clear hx h0
        go_wp2
        go_ret
        rw [tlen_eq hk HZ.out (.inr HX.out)]
        exact ⟨rfl, rfl⟩
end Go.Proofs.Ytonjecddhbckgaa
