/- NatBack: the walk. -/
import Derived.Test.YtonjecddhbckgaaBkPos
import Derived.Test.YtonjecddhbckgaaBkNone
namespace Go.Proofs.Ytonjecddhbckgaa
open Go.RowKit
set_option maxHeartbeats 1000000 in
theorem natBack_out (a : Option Addr) (n c : Nat) (b : Option Addr) (m d : Nat) (w : World) (hn : n ≤ 9223372036854775807) (hm : m ≤ 9223372036854775807)
    (h : 12 < n ∨ 12 < m) :
    Calls Try.prog 7 #[.slice a n c, .slice b m d] w fun e w' => e = .returned (.bool true) ∧ Below w.heap.size w w' := by
  by_cases h1 : 12 < n
  · have g1 : (12 : Int) < (n : Int) := by omega
    clear h
    go_enter Try.func7, Try.ntmps7
    go_wp2_with fail
    refine (awake_any _).mono ?_
    rintro e w1 ⟨rfl, hb⟩
    go_wp2
    go_ret
    exact ⟨rfl, hb⟩
  · have g1 : (n : Int) ≤ 12 := by omega
    have g2 : (12 : Int) < (m : Int) := by omega
    clear h
    go_enter Try.func7, Try.ntmps7
    go_wp2_with fail
    refine (awake_any _).mono ?_
    rintro e w1 ⟨rfl, hb⟩
    go_wp2
    go_ret
    exact ⟨rfl, hb⟩

theorem natBack_in (a : Option Addr) (n c : Nat) (b : Option Addr) (m d : Nat) (N M : Nat) (w : World) (hn : n ≤ 12) (hm : m ≤ 12)
    (ha : Lim 12 w (.slice a n c) N) (hb : Lim 12 w (.slice b m d) M) :
    Calls Try.prog 7 #[.slice a n c, .slice b m d] w fun e w' => e = .returned (.bool true) ∧ Below w.heap.size w w' := by
  rcases Nat.eq_zero_or_pos M with h | h
  · exact natBack_none a n c b m d N M w hn hm ha hb h
  · exact natBack_pos a n c b m d N M w hn hm ha hb h
end Go.Proofs.Ytonjecddhbckgaa
