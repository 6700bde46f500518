/- WholeBytes, where too much comes in. -/
import Derived.Test.YthndfmpnfgbioaaWm
namespace Go.Proofs.Ythndfmpnfgbioaa
open Go.RowKit

set_option maxHeartbeats 2000000 in
theorem wholeBytes_out (A : Option Addr) (k cap : Nat) (B : Option Addr) (bm bd : Nat) (w : World) (h1 : k ≤ 9223372036854775807) (h2 : bm ≤ 9223372036854775807) (h : 4 < k ∨ 100 < bm) :
    Calls Try.prog 12 #[.slice A k cap, .slice B bm bd] w fun e w' => e = .returned (.bool true) ∧ Below w.heap.size w w' := by
  have H : Hid ((4 : Int) < (k : Int) ∨ ((k : Int) ≤ 4 ∧ (100 : Int) < (bm : Int))) := by
    by_cases x : 4 < k
    · exact .inl (by omega)
    · exact .inr ⟨by omega, by omega⟩
  clear h
  rcases H.out with g1 | ⟨g1, g2⟩
  all_goals
    clear H
    go_enter Try.func12, Try.ntmps12
    go_wp2_with fail
    refine (awake2 _).mono ?_
    rintro e w1 ⟨rfl, hb⟩
    go_wp2
    go_ret
    exact ⟨rfl, hb⟩
end Go.Proofs.Ythndfmpnfgbioaa
