/- Whether a cell may be, by the document; how many cells a record has: both sides. -/
import Derived.Test.YtmedmeabjlmggaaKa
namespace Go.Proofs.Ytmedmeabjlmggaa
open Go.RowKit
set_option linter.unusedSimpArgs false
set_option linter.unusedVariables false

set_option maxHeartbeats 2000000 in
theorem need_any (n : Nat) (w : World) (hn : n ≤ 9223372036854775807) :
    Calls Try.prog 15 #[.int .i64 (n : Nat)] w fun e w' => e = .returned (.int .i64 (needF n : Nat)) ∧ w' = w := by
  obtain ⟨B, hB⟩ : ∃ B, needF n = B := ⟨_, rfl⟩
  have hB2 := hB
  unfold needF at hB2
  rw [hB]
  clear hB
  by_cases h1 : n < 1
  · go_enter Try.func15, Try.ntmps15
    go_wp2
    go_ret
    rw [if_pos (by omega)] at hB2
    subst hB2
    exact ⟨rfl, rfl⟩
  by_cases h2 : 392 < n
  · go_enter Try.func15, Try.ntmps15
    go_wp2
    go_ret
    rw [if_pos (by omega)] at hB2
    subst hB2
    exact ⟨rfl, rfl⟩
  · rw [if_neg (by omega)] at hB2
    have HB := Lib.hid hB2
    clear hB2
    go_enter Try.func15, Try.ntmps15
    go_wp2
    go_ret
    have := HB.out
    refine ⟨congrArg (fun x => Ending.returned (.int .i64 x)) ?_, rfl⟩
    omega
set_option maxHeartbeats 2000000 in
theorem rneed_any (n : Nat) (w : World) (hn : n ≤ 9223372036854775807) :
    Calls Try.prog 16 #[.int .i64 (n : Nat)] w fun e w' => e = .returned (.int .i64 (needF n : Nat)) ∧ w' = w := by
  obtain ⟨B, hB⟩ : ∃ B, needF n = B := ⟨_, rfl⟩
  have hB2 := hB
  unfold needF at hB2
  rw [hB]
  clear hB
  by_cases h1 : n < 1
  · go_enter Try.func16, Try.ntmps16
    go_wp2
    go_ret
    rw [if_pos (by omega)] at hB2
    subst hB2
    exact ⟨rfl, rfl⟩
  by_cases h2 : 392 < n
  · go_enter Try.func16, Try.ntmps16
    go_wp2
    go_ret
    rw [if_pos (by omega)] at hB2
    subst hB2
    exact ⟨rfl, rfl⟩
  · rw [if_neg (by omega)] at hB2
    have HB := Lib.hid hB2
    clear hB2
    go_enter Try.func16, Try.ntmps16
    go_wp2
    go_loopw [3] (fun v wr => ∃ k : Nat, v = .int .i64 (k : Nat) ∧ 1 ≤ k ∧ 49 * (k - 1) < n ∧ wr = w) (fun v _ => n - (intOf v).toNat)
    case atStart => exact ⟨1, rfl, by omega, by omega, rfl⟩
    case round =>
      obtain ⟨k, rfl, hk, hkn, rfl⟩ := hrel
      by_cases hd : 49 * k < n
      · have hd2 : (49 : Int) * (k : Int) < (n : Int) := by omega
        go_wp2
        go_roundw
        case rel => exact ⟨k + 1, by go_num, by omega, by omega, by first | rfl | trivial⟩
        case measure => simp [intOf]; omega
      · have hd2 : ¬ ((49 : Int) * (k : Int) < (n : Int)) := by omega
        go_wp2
        go_ret
        have := HB.out
        refine ⟨congrArg (fun x => Ending.returned (.int .i64 x)) ?_, rfl⟩
        omega
end Go.Proofs.Ytmedmeabjlmggaa
