/- RatioBetween: the walk. -/
import Derived.Test.YtglcififcldchaaGreatDoorPRrk
namespace Go.Proofs.YtglcififcldchaaGreatDoor
open Go.RowKit
attribute [local go_sem ↓] Go.wp_at_zero Go.wp_at_succ
set_option linter.unusedVariables false

theorem irqB {k : Nat} {w : World} {v : Value} {q : Rat} (hb : BQ k q) (h : IsRat w v q) : LimQ k w v q := h.limQ hb
theorem qsubB_is {k l : Nat} {w : World} {v v' : Value} {x y z : Rat} (hz : x - y = z) (hx : LimQ k w v x) (hy : LimQ l w v' y) (hk : k ≤ 40000) (hl : l ≤ 40000) (h1 : 1 ≤ k) (h1' : 1 ≤ l) : Calls Tryz.prog 25 #[v, v'] w fun e w' => RatPost w w' e z := by
  subst hz; exact q_sub hx hy hk hl h1 h1'
theorem Blk.own4' {w : World} {g : Nat} {t : TypeId} {x0 x1 x2 x3 a b c d : Value} (h : Blk w g t #[x0, x1, x2, x3]) : Blk ((((w.setCell ⟨g, 0, none⟩ a).setCell ⟨g, 1, none⟩ b).setCell ⟨g, 2, none⟩ c).setCell ⟨g, 3, none⟩ d) g t #[a, b, c, d] := (((h.set_ 0 a).set_ 1 b).set_ 2 c).set_ 3 d
theorem Blk.far4 {w : World} {g g' : Nat} {t : TypeId} {cs : Array Value} {a b c d : Value} (h : Blk w g t cs) (hg : g ≠ g') : Blk ((((w.setCell ⟨g', 0, none⟩ a).setCell ⟨g', 1, none⟩ b).setCell ⟨g', 2, none⟩ c).setCell ⟨g', 3, none⟩ d) g t cs := (((h.other hg 0 a).other hg 1 b).other hg 2 c).other hg 3 d

end Go.Proofs.YtglcififcldchaaGreatDoor
