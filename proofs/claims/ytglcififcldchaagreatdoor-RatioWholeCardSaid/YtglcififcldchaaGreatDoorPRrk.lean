/- RatioReckons: the walk. -/
import Derived.Test.YtglcififcldchaaGreatDoorPRs
namespace Go.Proofs.YtglcififcldchaaGreatDoor
open Go.RowKit
attribute [local go_sem ↓] Go.wp_at_zero Go.wp_at_succ
set_option linter.unusedVariables false

theorem lq {k : Nat} {w : World} {v : Value} {X Y : Int} {q : Rat} (hq : q = ratOf X Y) (h : LimR k w v X Y) : LimQ k w v q := ⟨X, Y, h, hq⟩
theorem few_is (b : Bool) (A : Option Addr) (n c : Nat) (b' : Bool) (A' : Option Addr) (n' c' : Nat) (w : World) (r : Bool) (hr : (decide (n ≤ 4) && decide (n' ≤ 4)) = r) : Calls Tryz.prog 13 #[.agg #[.bool b, .slice A n c, .bool b', .slice A' n' c']] w fun e w' => e = .returned (.bool r) ∧ Below w.heap.size w w' := by
  subst hr; exact few3_any b A n c b' A' n' c' w
theorem bq_sub {k l : Nat} {x y : Rat} (hx : BQ k x) (hy : BQ l y) : BQ (k + l + 1) (x - y) := by
  obtain ⟨h1, h2, h3, h4⟩ := xy_bd hx hy
  rw [← cross_sub]
  exact divInt_bq h4 (i_sub h1 h2 (k + l + 1) (by omega) (by omega)) h3 (Nat.le_refl _) (Nat.le_refl _)
end Go.Proofs.YtglcififcldchaaGreatDoor
