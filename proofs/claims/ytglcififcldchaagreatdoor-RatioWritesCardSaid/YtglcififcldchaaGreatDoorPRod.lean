/- RatioOrder: fractions that differ; the walk. -/
import Derived.Test.YtglcififcldchaaGreatDoorPRrk
namespace Go.Proofs.YtglcififcldchaaGreatDoor
open Go.RowKit
attribute [local go_sem ↓] Go.wp_at_zero Go.wp_at_succ
set_option linter.unusedVariables false

set_option maxHeartbeats 1000000 in
theorem isInt_differ {k : Nat} {w : World} {v v' : Value} {X Y : Int} (h : IsInt w v X) (h' : IsInt w v' Y) (hX : X.natAbs < 4294967296 ^ k) (hY : Y.natAbs < 4294967296 ^ k) (hk : k ≤ 1000000) (hne : X ≠ Y) :
    Calls Tryz.prog 32 #[v, v'] w fun e w' => e = .returned (.bool false) ∧ Below w.heap.size w w' := by
  obtain ⟨m, rfl, h1⟩ := h
  obtain ⟨m', rfl, h1'⟩ := h'
  obtain ⟨A, n, c, rfl, _, h1⟩ := isNat_form h1
  obtain ⟨B, m, d, rfl, _, h1'⟩ := isNat_form h1'
  by_cases hb : decide (X < 0) = decide (Y < 0)
  · have hn : X.natAbs ≠ Y.natAbs := by
      rw [decide_eq_decide] at hb
      omega
    rw [hb]
    generalize decide (Y < 0) = b
    have H1 := Lib.hid h1
    have H2 := Lib.hid h1'
    have HX := Lib.hid hX
    have HY := Lib.hid hY
    have HN := Lib.hid hn
    clear hb hn hne
    have hs0 : w.heap.size < w.heap.size + 1 + 1 := by omega
    go_enter Tryz.func32, Tryz.ntmps32
    go_wp2_with fail
    refine Calls.mono (isNat_differ (k := k) ((H1.out.alloc_ _).alloc_ _) ((H2.out.alloc_ _).alloc_ _) HX.out HY.out hk HN.out) ?_
    rintro e w1 ⟨rfl, hb1⟩
    have HB := Lib.hid (show Below w.heap.size w w1 from bun (bun hb1))
    clear hb1
    go_wp2
    go_ret
    exact ⟨rfl, HB.out⟩
  · generalize decide (X < 0) = b at *
    generalize decide (Y < 0) = b' at *
    clear h1 h1' hX hY hne
    cases b <;> cases b'
    · exact absurd rfl hb
    · clear hb
      go_enter Tryz.func32, Tryz.ntmps32
      go_wp2
      go_ret
      exact ⟨rfl, bun (bun (Below.refl _ _))⟩
    · clear hb
      go_enter Tryz.func32, Tryz.ntmps32
      go_wp2
      go_ret
      exact ⟨rfl, bun (bun (Below.refl _ _))⟩
    · exact absurd rfl hb

end Go.Proofs.YtglcififcldchaaGreatDoor
