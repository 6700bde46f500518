/- A cell's words; whether it may be; how many cells a record has: both sides. -/
import Derived.Test.YtmedmeabjlmggaaRow8c
namespace Go.Proofs.Ytmedmeabjlmggaa
open Go.RowKit

/-- May a cell be? -/
def mayP (p q : Int) (n : Nat) : Prop := 1 ≤ q ∧ q ≤ 8 ∧ 0 ≤ p ∧ p < q ∧ 1 ≤ n ∧ n ≤ 49 ∧ (p = q - 1 ∨ n = 49)
instance (p q : Int) (n : Nat) : Decidable (mayP p q n) := by unfold mayP; infer_instance
/-- A cell as a value. -/
abbrev cellV (g s : Nat) (p q : Int) (A : Option Addr) (n c : Nat) : Value := .agg #[.int .u32 (g : Nat), .int .u32 (s : Nat), .int .i64 p, .int .i64 q, .slice A n c]
def needF (n : Nat) : Nat := if n < 1 ∨ 392 < n then 0 else (n + 48) / 49

set_option maxHeartbeats 2000000 in
theorem may_any (g s : Nat) (p q : Int) (A : Option Addr) (n c : Nat) (w : World) (hn : n ≤ 9223372036854775807) :
    Calls Try.prog 30 #[cellV g s p q A n c] w fun e w' => e = .returned (.bool (decide (mayP p q n))) ∧ Below w.heap.size w w' := by
  obtain ⟨B, hB⟩ : ∃ B, decide (mayP p q n) = B := ⟨_, rfl⟩
  rw [hB]
  have HBD := Lib.hid hB
  clear hB
  have HW := Lib.hid (below_new w (.cells #[.int .u32 (g : Nat), .int .u32 (s : Nat), .int .i64 p, .int .i64 q, .slice A n c] 62))
  have fin : ∀ b : Bool, (b = true ↔ mayP p q n) → b = B := fun b hb => by
    rw [← HBD.out]
    cases b
    · exact (decide_eq_false (fun h => by have := hb.2 h; cases this)).symm
    · exact (decide_eq_true (hb.1 rfl)).symm
  have FIN := Lib.hid fin
  clear fin HBD
  by_cases h1 : q < 1
  · go_enter Try.func30, Try.ntmps30
    go_wp2
    go_ret
    exact ⟨congrArg (fun b => Ending.returned (.bool b)) (FIN.out _ (by unfold mayP; simp; omega)), HW.out⟩
  by_cases h2 : 8 < q
  · go_enter Try.func30, Try.ntmps30
    go_wp2
    go_ret
    exact ⟨congrArg (fun b => Ending.returned (.bool b)) (FIN.out _ (by unfold mayP; simp; omega)), HW.out⟩
  by_cases h3 : p < 0
  · go_enter Try.func30, Try.ntmps30
    go_wp2
    go_ret
    exact ⟨congrArg (fun b => Ending.returned (.bool b)) (FIN.out _ (by unfold mayP; simp; omega)), HW.out⟩
  by_cases h4 : q ≤ p
  · go_enter Try.func30, Try.ntmps30
    go_wp2
    go_ret
    exact ⟨congrArg (fun b => Ending.returned (.bool b)) (FIN.out _ (by unfold mayP; simp; omega)), HW.out⟩
  by_cases h5 : p < q - 1
  · go_enter Try.func30, Try.ntmps30
    go_wp2
    go_ret
    exact ⟨congrArg (fun b => Ending.returned (.bool b)) (FIN.out _ (by unfold mayP; simp; omega)), HW.out⟩
  by_cases h6 : n < 1
  · go_enter Try.func30, Try.ntmps30
    go_wp2
    go_ret
    exact ⟨congrArg (fun b => Ending.returned (.bool b)) (FIN.out _ (by unfold mayP; simp; omega)), HW.out⟩
  · go_enter Try.func30, Try.ntmps30
    go_wp2
    go_ret
    exact ⟨congrArg (fun b => Ending.returned (.bool b)) (FIN.out _ (by unfold mayP; simp; omega)), HW.out⟩
end Go.Proofs.Ytmedmeabjlmggaa
