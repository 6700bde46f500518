/- NatOrder: the walk. -/
import Derived.Test.YtonjecddhbckgaaOrLt
import Derived.Test.YtonjecddhbckgaaOrEq
import Derived.Test.YtonjecddhbckgaaOrGt
namespace Go.Proofs.Ytonjecddhbckgaa
open Go.RowKit

set_option maxHeartbeats 1000000 in
theorem natOrder_out (a : Option Addr) (n c : Nat) (b : Option Addr) (m d : Nat) (w : World) (hn : n ≤ 9223372036854775807) (hm : m ≤ 9223372036854775807)
    (h : 14 < n ∨ 14 < m) :
    Calls Try.prog 11 #[.slice a n c, .slice b m d] w fun e w' => e = .returned (.bool true) ∧ Below w.heap.size w w' := by
  by_cases h1 : 14 < n
  · have g1 : (14 : Int) < (n : Int) := by omega
    clear h
    go_enter Try.func11, Try.ntmps11
    go_wp2_with fail
    refine (awake_any _).mono ?_
    rintro e w1 ⟨rfl, hb⟩
    go_wp2
    go_ret
    exact ⟨rfl, hb⟩
  · have g1 : (n : Int) ≤ 14 := by omega
    have g2 : (14 : Int) < (m : Int) := by omega
    clear h
    go_enter Try.func11, Try.ntmps11
    go_wp2_with fail
    refine (awake_any _).mono ?_
    rintro e w1 ⟨rfl, hb⟩
    go_wp2
    go_ret
    exact ⟨rfl, hb⟩

theorem natOrder_in (a : Option Addr) (n c : Nat) (b : Option Addr) (m d : Nat) (N M : Nat) (w : World) (hn : n ≤ 14) (hm : m ≤ 14)
    (ha : Lim 14 w (.slice a n c) N) (hb : Lim 14 w (.slice b m d) M) :
    Calls Try.prog 11 #[.slice a n c, .slice b m d] w fun e w' => e = .returned (.bool true) ∧ Below w.heap.size w w' := by
  rcases Nat.lt_trichotomy N M with h | h | h
  · exact natOrder_lt a n c b m d N M w hn hm ha hb h
  · exact natOrder_eq a n c b m d N M w hn hm ha hb h
  · exact natOrder_gt a n c b m d N M w hn hm ha hb h
end Go.Proofs.Ytonjecddhbckgaa
