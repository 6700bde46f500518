/- NatLimbs: the walk. -/
import Derived.Test.YtonjecddhbckgaaLbPos
import Derived.Test.YtonjecddhbckgaaLbNone
namespace Go.Proofs.Ytonjecddhbckgaa
open Go.RowKit
set_option maxHeartbeats 1000000 in
theorem natLimbs_out (a : Option Addr) (n c : Nat) (w : World) (hn : n ≤ 9223372036854775807) (h : 12 < n) :
    Calls Try.prog 10 #[.slice a n c] w fun e w' => e = .returned (.bool true) ∧ Below w.heap.size w w' := by
  have g1 : (12 : Int) < (n : Int) := by omega
  clear h
  go_enter Try.func10, Try.ntmps10
  go_wp2_with fail
  refine (awake_any _).mono ?_
  rintro e w1 ⟨rfl, hb⟩
  go_wp2
  go_ret
  exact ⟨rfl, hb⟩

theorem natLimbs_in (a : Option Addr) (n c : Nat) (N : Nat) (w : World) (hn : n ≤ 12) (ha : Lim 12 w (.slice a n c) N) :
    Calls Try.prog 10 #[.slice a n c] w fun e w' => e = .returned (.bool true) ∧ Below w.heap.size w w' := by
  rcases Nat.eq_zero_or_pos N with h | h
  · exact natLimbs_none a n c N w hn ha h
  · exact natLimbs_pos a n c N w hn ha h
end Go.Proofs.Ytonjecddhbckgaa
