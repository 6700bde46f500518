/- Whether a cell may be, by the document; how many cells a record has: both sides. -/
import Derived.Test.YtahcgihdgpdiiaaKa
namespace Go.Proofs.Ytahcgihdgpdiiaa
open Go.RowKit
set_option linter.unusedSimpArgs false
set_option linter.unusedVariables false

set_option maxHeartbeats 2000000 in
theorem rmay_any (g s : Nat) (p q : Int) (A : Option Addr) (n c : Nat) (w : World) (hn : n ≤ 9223372036854775807) :
    Calls Try.prog 18 #[cellV g s p q A n c] w fun e w' => e = .returned (.bool (decide (mayP p q n))) ∧ Below w.heap.size w w' := by
  obtain ⟨B, hB⟩ : ∃ B, decide (mayP p q n) = B := ⟨_, rfl⟩
  rw [hB]
  have HBD := Lib.hid hB
  clear hB
  have HW := Lib.hid (below_new w (.cells #[.int .u32 (g : Nat), .int .u32 (s : Nat), .int .i64 p, .int .i64 q, .slice A n c] 25))
  have fin : ∀ b : Bool, (b = true ↔ mayP p q n) → b = B := fun b hb => by
    rw [← HBD.out]
    cases b
    · exact (decide_eq_false (fun h => by have := hb.2 h; cases this)).symm
    · exact (decide_eq_true (hb.1 rfl)).symm
  have FIN := Lib.hid fin
  clear fin HBD
  by_cases h1 : q < 1
  · go_enter Try.func18, Try.ntmps18
    go_wp2
    go_ret
    exact ⟨congrArg (fun b => Ending.returned (.bool b)) (FIN.out _ (by unfold mayP; simp; omega)), by first | exact HW.out | exact Below.drewN_ HW.out _ | exact Below.drew_ HW.out⟩
  by_cases h2 : 8 < q
  · go_enter Try.func18, Try.ntmps18
    go_wp2
    go_ret
    exact ⟨congrArg (fun b => Ending.returned (.bool b)) (FIN.out _ (by unfold mayP; simp; omega)), by first | exact HW.out | exact Below.drewN_ HW.out _ | exact Below.drew_ HW.out⟩
  by_cases h3 : p < 0
  · go_enter Try.func18, Try.ntmps18
    go_wp2
    go_ret
    exact ⟨congrArg (fun b => Ending.returned (.bool b)) (FIN.out _ (by unfold mayP; simp; omega)), by first | exact HW.out | exact Below.drewN_ HW.out _ | exact Below.drew_ HW.out⟩
  by_cases h4 : q ≤ p
  · go_enter Try.func18, Try.ntmps18
    go_wp2
    go_ret
    exact ⟨congrArg (fun b => Ending.returned (.bool b)) (FIN.out _ (by unfold mayP; simp; omega)), by first | exact HW.out | exact Below.drewN_ HW.out _ | exact Below.drew_ HW.out⟩
  by_cases h5 : n < 1
  · go_enter Try.func18, Try.ntmps18
    go_wp2
    go_ret
    exact ⟨congrArg (fun b => Ending.returned (.bool b)) (FIN.out _ (by unfold mayP; simp; omega)), by first | exact HW.out | exact Below.drewN_ HW.out _ | exact Below.drew_ HW.out⟩
  by_cases h6 : 49 < n
  · go_enter Try.func18, Try.ntmps18
    go_wp2
    go_ret
    exact ⟨congrArg (fun b => Ending.returned (.bool b)) (FIN.out _ (by unfold mayP; simp; omega)), by first | exact HW.out | exact Below.drewN_ HW.out _ | exact Below.drew_ HW.out⟩
  by_cases h7 : p = q - 1
  · subst h7
    go_enter Try.func18, Try.ntmps18
    go_wp2
    go_ret
    exact ⟨congrArg (fun b => Ending.returned (.bool b)) (FIN.out _ (by unfold mayP; simp; omega)), by first | exact HW.out | exact Below.drewN_ HW.out _ | exact Below.drew_ HW.out⟩
  · go_enter Try.func18, Try.ntmps18
    go_wp2
    go_ret
    exact ⟨congrArg (fun b => Ending.returned (.bool b)) (FIN.out _ (by unfold mayP; simp; omega)), by first | exact HW.out | exact Below.drewN_ HW.out _ | exact Below.drew_ HW.out⟩

set_option maxHeartbeats 2000000 in
theorem need_any (n : Nat) (w : World) (hn : n ≤ 9223372036854775807) :
    Calls Try.prog 24 #[.int .i64 (n : Nat)] w fun e w' => e = .returned (.int .i64 (needF n : Nat)) ∧ w' = w := by
  obtain ⟨B, hB⟩ : ∃ B, needF n = B := ⟨_, rfl⟩
  have hB2 := hB
  unfold needF at hB2
  rw [hB]
  clear hB
  by_cases h1 : n < 1
  · go_enter Try.func24, Try.ntmps24
    go_wp2
    go_ret
    rw [if_pos (by omega)] at hB2
    subst hB2
    exact ⟨rfl, rfl⟩
  by_cases h2 : 392 < n
  · go_enter Try.func24, Try.ntmps24
    go_wp2
    go_ret
    rw [if_pos (by omega)] at hB2
    subst hB2
    exact ⟨rfl, rfl⟩
  · rw [if_neg (by omega)] at hB2
    have HB := Lib.hid hB2
    clear hB2
    go_enter Try.func24, Try.ntmps24
    go_wp2
    go_ret
    have := HB.out
    refine ⟨congrArg (fun x => Ending.returned (.int .i64 x)) ?_, rfl⟩
    omega
set_option maxHeartbeats 2000000 in
theorem rneed_any (n : Nat) (w : World) (hn : n ≤ 9223372036854775807) :
    Calls Try.prog 25 #[.int .i64 (n : Nat)] w fun e w' => e = .returned (.int .i64 (needF n : Nat)) ∧ w' = w := by
  obtain ⟨B, hB⟩ : ∃ B, needF n = B := ⟨_, rfl⟩
  have hB2 := hB
  unfold needF at hB2
  rw [hB]
  clear hB
  by_cases h1 : n < 1
  · go_enter Try.func25, Try.ntmps25
    go_wp2
    go_ret
    rw [if_pos (by omega)] at hB2
    subst hB2
    exact ⟨rfl, rfl⟩
  by_cases h2 : 392 < n
  · go_enter Try.func25, Try.ntmps25
    go_wp2
    go_ret
    rw [if_pos (by omega)] at hB2
    subst hB2
    exact ⟨rfl, rfl⟩
  · rw [if_neg (by omega)] at hB2
    have HB := Lib.hid hB2
    clear hB2
    go_enter Try.func25, Try.ntmps25
    go_wp2
    go_loopw [3] (fun v wr => ∃ k : Nat, v = .int .i64 (k : Nat) ∧ 1 ≤ k ∧ 49 * (k - 1) < n ∧ wr = w) (fun v _ => n - (intOf v).toNat)
    case atStart => exact ⟨1, rfl, by omega, by omega, rfl⟩
    case round =>
      obtain ⟨k, rfl, hk, hkn, rfl⟩ := hrel
      by_cases hd : 49 * k < n
      · have hd2 : (49 : Int) * (k : Int) < (n : Int) := by omega
        go_wp2
        go_roundw
        case rel => exact ⟨k + 1, by go_num, by omega, by omega, by first | rfl | trivial⟩
        case measure => simp [intOf]; omega
      · have hd2 : ¬ ((49 : Int) * (k : Int) < (n : Int)) := by omega
        go_wp2
        go_ret
        have := HB.out
        refine ⟨congrArg (fun x => Ending.returned (.int .i64 x)) ?_, rfl⟩
        omega
end Go.Proofs.Ytahcgihdgpdiiaa
