/- Contracts: shift, fill of the sum's table. -/
import Derived.Test.YtmedmeabjlmggaaCm
import Derived.Laws.BitsAllLaws
import Derived.RegionTactic
import Derived.ChangeAlike
import Derived.IntWalk
namespace Go.Proofs.Ytmedmeabjlmggaa
open Go.RowKit

theorem u32_and_one (x : Nat) (h : x < 4294967296) : bits BinOp.and IntKind.u32 (x : Int) 1 = ((x % 2 : Nat) : Int) := by
  have := u32_and_nat x 1 h (by decide)
  rw [Nat.and_one_is_mod] at this
  exact this
theorem u32_poly (x : Nat) (h : x < 4294967296) : bits BinOp.xor IntKind.u32 (x : Int) 3988292384 = ((x ^^^ 3988292384 : Nat) : Int) := u32_xor_nat x 3988292384 h (by decide)

set_option maxHeartbeats 400000 in
theorem shift_any (x : Nat) (w : World) (h : x < 4294967296) :
    Calls Try.prog 70 #[.int .u32 (x : Nat)] w fun e w' => e = .returned (.int .u32 (sh x : Nat)) ∧ w = w' := by
  have hb := u32_and_one x h
  have hx : bits BinOp.xor IntKind.u32 ((x : Int) / 2) 3988292384 = ((x / 2 ^^^ 3988292384 : Nat) : Int) := u32_poly (x / 2) (by omega)
  rcases Nat.mod_two_eq_zero_or_one x with h0 | h0
  · rw [h0] at hb
    have e : sh x = x / 2 := by unfold sh; rw [if_neg (by omega), Nat.xor_zero]
    have H0 := Lib.hid h0
    have HE := Lib.hid e
    clear h0 e
    go_enter Try.func70, Try.ntmps70
    go_wp2
    go_ret
    rw [HE.out]
    exact ⟨by simp, rfl⟩
  · rw [h0] at hb
    have e : sh x = x / 2 ^^^ 3988292384 := by unfold sh; rw [if_pos h0]
    have H0 := Lib.hid h0
    have HE := Lib.hid e
    clear h0 e
    go_enter Try.func70, Try.ntmps70
    go_wp2
    go_ret
    rw [HE.out]
    exact ⟨by simp, rfl⟩

end Go.Proofs.Ytmedmeabjlmggaa
