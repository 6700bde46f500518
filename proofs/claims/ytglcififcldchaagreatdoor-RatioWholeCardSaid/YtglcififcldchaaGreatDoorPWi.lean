/- Contracts of the document's own whole numbers: Same, Plain, Mul, Cmp. -/
import Derived.Test.YtglcififcldchaaGreatDoorPWg
namespace Go.Proofs.YtglcififcldchaaGreatDoor
open Go.RowKit
attribute [local go_sem ↓] Go.wp_at_zero Go.wp_at_succ

theorem limI_mk {k : Nat} {w : World} {m : Value} {b : Bool} {N : Nat} (h : Lim k w m N) : LimI k w (.agg #[.bool b, m]) (sg b N) := ⟨b, m, N, rfl, h, rfl⟩

set_option maxHeartbeats 1000000 in
theorem isInt_same {k : Nat} {w : World} {v v' : Value} {X : Int} (h : IsInt w v X) (h' : IsInt w v' X) (hX : X.natAbs < 4294967296 ^ k) (hk : k ≤ 1000000) :
    Calls Tryz.prog 32 #[v, v'] w fun e w' => e = .returned (.bool true) ∧ Below w.heap.size w w' := by
  obtain ⟨m, rfl, h1⟩ := h
  obtain ⟨m', rfl, h1'⟩ := h'
  obtain ⟨A, n, c, rfl, _, h1⟩ := isNat_form h1
  obtain ⟨B, m, d, rfl, _, h1'⟩ := isNat_form h1'
  generalize decide (X < 0) = b
  have H1 := Lib.hid h1
  have H2 := Lib.hid h1'
  have HX := Lib.hid hX
  have hs0 : w.heap.size < w.heap.size + 1 + 1 := by omega
  go_enter Tryz.func32, Tryz.ntmps32
  go_wp2_with fail
  refine Calls.mono (isNat_same (k := k) ((H1.out.alloc_ _).alloc_ _) ((H2.out.alloc_ _).alloc_ _) HX.out hk) ?_
  rintro e w1 ⟨rfl, hb1⟩
  have HB := Lib.hid (show Below w.heap.size w w1 from (by repeat first | exact Below.refl _ _ | (with_reducible refine Below.trans ?_ (Below.mono (by with_reducible assumption) ?_)) | (with_reducible refine Below.alloc_ ?_ ?_ _) | (with_reducible refine Below.drew ?_) | (with_reducible refine Below.set2 ?_ ?_) | exact Nat.le_refl _ | omega | focus (simp <;> omega)))
  clear hb1
  go_wp2
  go_ret
  exact ⟨rfl, HB.out⟩

end Go.Proofs.YtglcififcldchaaGreatDoor
