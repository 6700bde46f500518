/- awake of the laws over whole numbers. -/
import Derived.Test.YtglcififcldchaaGreatDoorPWl
namespace Go.Proofs.YtglcififcldchaaGreatDoor
open Go.RowKit
attribute [local go_sem ↓] Go.wp_at_zero Go.wp_at_succ

theorem li_small_is {k : Nat} {w : World} {v : Value} {X : Int} (h : LimI k w v X) (hk : k ≤ 1000000) (h1 : -9223372036854775808 ≤ X) (h2 : X ≤ 9223372036854775807) : Calls Tryz.prog 131 #[v] w fun e w' => e = .returned (.tuple #[.int .i64 X, .bool true]) ∧ Below w.heap.size w w' := by
  have := li_small h hk
  unfold SmallPost at this
  rw [(small_yes ⟨h1, h2⟩).1, (small_yes ⟨h1, h2⟩).2] at this
  exact this
theorem li_div_is {k l : Nat} {w : World} {v v' : Value} {X Y : Int} (q r : Int) (hf : FDiv X Y q r) (h : LimI k w v X) (h' : LimI l w v' Y) (hk : k ≤ 1000000) (hl : l ≤ 1000000) (hY : Y ≠ 0) :
    Calls Tryz.prog 96 #[v, v'] w fun e w' => ∃ vq vr, e = .returned (.tuple #[vq, vr, .bool true]) ∧ IsInt w' vq q ∧ IsInt w' vr r ∧ Below w.heap.size w w' :=
  (li_div h h' hk hl hY).mono fun e w' ⟨vq, vr, q', r', he, hf', hq, hr, hb⟩ => by
    obtain ⟨rfl, rfl⟩ := hf.uniq hf'
    exact ⟨vq, vr, he, hq, hr, hb⟩
end Go.Proofs.YtglcififcldchaaGreatDoor
