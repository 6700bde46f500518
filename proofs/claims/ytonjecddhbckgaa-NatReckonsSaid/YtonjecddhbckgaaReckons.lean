/- NatReckons: the walk. -/
import Derived.Test.YtonjecddhbckgaaRkYes
import Derived.Test.YtonjecddhbckgaaRkNo
namespace Go.Proofs.Ytonjecddhbckgaa
open Go.RowKit
set_option maxHeartbeats 1000000 in
theorem natReckons_out (a : Option Addr) (n c : Nat) (b : Option Addr) (m d : Nat) (w : World) (hn : n ≤ 9223372036854775807) (hm : m ≤ 9223372036854775807)
    (h : 40 < n ∨ 40 < m) :
    Calls Try.prog 3 #[.slice a n c, .slice b m d] w fun e w' => e = .returned (.bool true) ∧ Below w.heap.size w w' := by
  by_cases h1 : 40 < n
  · have g1 : (40 : Int) < (n : Int) := by omega
    clear h
    go_enter Try.func3, Try.ntmps3
    go_wp2_with fail
    refine (awake_any _).mono ?_
    rintro e w1 ⟨rfl, hb⟩
    go_wp2
    go_ret
    exact ⟨rfl, hb⟩
  · have g1 : (n : Int) ≤ 40 := by omega
    have g2 : (40 : Int) < (m : Int) := by omega
    clear h
    go_enter Try.func3, Try.ntmps3
    go_wp2_with fail
    refine (awake_any _).mono ?_
    rintro e w1 ⟨rfl, hb⟩
    go_wp2
    go_ret
    exact ⟨rfl, hb⟩

theorem natReckons_in (a : Option Addr) (n c : Nat) (b : Option Addr) (m d : Nat) (N M : Nat) (w : World) (hn : n ≤ 40) (hm : m ≤ 40)
    (ha : Lim 40 w (.slice a n c) N) (hb : Lim 40 w (.slice b m d) M) :
    Calls Try.prog 3 #[.slice a n c, .slice b m d] w fun e w' => e = .returned (.bool true) ∧ Below w.heap.size w w' := by
  rcases Nat.lt_or_ge N M with h | h
  · exact natReckons_no a n c b m d N M w hn hm ha hb h
  · exact natReckons_yes a n c b m d N M w hn hm ha hb h
end Go.Proofs.Ytonjecddhbckgaa
