/- Contracts: the parts of a record, one by one (an iterator over a slice). -/
import Derived.Test.YtmedmeabjlmggaaKb
import Derived.Test.YtmedmeabjlmggaaKf
import Derived.RangeFuncBox
import Derived.RangeFuncLeaves
import Derived.Shelf.Abstract
import Derived.OwnWalkIn
import Derived.TacticsInMore
import Derived.LoopNIn
import Derived.LoopIn
import Derived.IntWalk
namespace Go.Proofs.Ytmedmeabjlmggaa
open Go.RowKit Go.Shelf
set_option linter.unusedSimpArgs false
set_option linter.unusedVariables false
attribute [local go_sem] Oper.semAt_some

/-- How long a part is. -/
def dl (n k : Nat) : Nat := min (49 * k + 49) n - 49 * k
abbrev encP (R : Addr) (n k : Nat) : Array Value := #[.int .i64 (k : Nat), .slice (some (R.add (49 * k))) (dl n k) (dl n k)]
def KpB (b : Nat) (W W' : World) : Prop := W'.heap[b]? = W.heap[b]?
theorem slice_part (R : Addr) (n c k : Nat) (hk : 49 * k < n) (hc : n ≤ c) (wq : World) :
    (Instr.slice 24 (.slice (some R) n c) (some (.int .i64 ((k : Int) * 49))) (some (.int .i64 ((min (49 * k + 49) n : Nat) : Int))) (some (.int .i64 ((min (49 * k + 49) n : Nat) : Int)))).run Try.prog wq = .ok (.slice (some (R.add (49 * k))) (dl n k) (dl n k)) wq := by
  have h1 : 49 * k ≤ min (49 * k + 49) n := by omega
  have h2 : min (49 * k + 49) n ≤ c := by omega
  have h3 : min (49 * k + 49) n ≠ 49 * k := by omega
  unfold dl
  generalize min (49 * k + 49) n = m at *
  rw [show ((k : Int) * 49) = ((49 * k : Nat) : Int) from by omega, run_slice_lhm wq 24 (some R) n c el8 .i64 .i64 .i64 _ _ _ (by omega) (by omega) (by omega) (by omega), sz8]
  simp only [Result.andThen, sliced, Int.toNat_natCast, Nat.mul_one, Option.map_some]
  rw [if_neg h3]

set_option maxRecDepth 100000 in
set_option maxHeartbeats 2000000 in
theorem parts_any (A : Option Addr) (n c : Nat) (w : World) :
    Calls Try.prog 31 #[.slice A n c] w fun e w' => e = .returned (.func (.func 53) #[] #[.pointer (some ⟨w.heap.size, 0, none⟩)]) ∧ w' = w.alloc (.cells #[.slice A n c] 24) := by
  go_enter Try.func31, Try.ntmps31
  go_wp2
  go_ret
  exact ⟨rfl, rfl⟩

set_option maxRecDepth 100000 in
set_option maxHeartbeats 4000000 in
theorem parts1_in (n l Bs : Nat) (R : Addr) (len cap : Nat) (hlen : len ≤ 392) (h0l : 0 < len) (hcap : len ≤ cap) (J Jx : List Nat → World → Prop) (W : World)
    (hY : ∀ pre x W, J pre W → pre.length < needF len → YieldAt Fence.wide (n - 1) Try.prog l (encP R len x) W fun e W' =>
      (e = .returned (.bool true) ∧ J (pre ++ [x]) W' ∧ KpB Bs W W') ∨ (e = .returned (.bool false) ∧ Jx (pre ++ [x]) W'))
    (hB : Boxed W Bs 24 (.slice (some R) len cap)) (h0 : J [] W) :
    CallsIn Fence.wide n Try.prog 53 #[.func (.yield l) #[] #[], .pointer (some ⟨Bs, 0, none⟩)] W fun e W' => (∃ v, e = .returned v) ∧
      ((∃ ys, ys = List.range (needF len) ∧ J ys W') ∨ (∃ pre, (∃ k, k ≤ needF len ∧ pre = List.range k) ∧ Jx pre W')) := by
  have hne : needF len = (len + 48) / 49 := by unfold needF; rw [if_neg (by omega)]
  have hn8 : needF len ≤ 8 := by omega
  have HND : Hid (∀ w : World, Calls Try.prog 15 #[.int .i64 (len : Nat)] w fun e w' => e = .returned (.int .i64 (needF len : Nat)) ∧ w' = w) := fun w => need_any len w (by omega)
  have HNE := Lib.hid hne
  clear hne
  generalize needF len = N at *
  refine callsIn_of_wp Try.func53 rfl trivial ?_ rfl
  simp only [Try.ntmps53, List.size_toArray, List.length_cons, List.length_nil, Nat.reduceAdd, Nat.reduceSub, Array.replicate_succ, Array.replicate_zero, List.push_toArray, List.append_toArray, List.nil_append, List.cons_append]
  have hc := hB.cell
  gi_wp2_with (refine ⟨trivial, fun h => (by cases h), ?_⟩; gi_at_call 15; refine (callsIn_wide.2 (HND.out _)).mono ?_; rintro e w' ⟨rfl, rfl⟩)
  gi_loopw [9] (fun i wr => ∃ k : Nat, k ≤ N ∧ i = .int .i64 (k : Nat) ∧ J (List.range k) wr ∧ Boxed wr Bs 24 (.slice (some R) len cap))
    (fun i _ => N - (intOf i).toNat)
  case atStart => exact ⟨0, Nat.zero_le _, rfl, h0, hB⟩
  case round =>
    obtain ⟨k, hk, rfl, hJs, hbx⟩ := hrel
    by_cases hlt : k < N
    · obtain ⟨fn, tmps, assign, body, hy, hR⟩ := hY _ k wr hJs (by rw [List.length_range]; exact hlt)
      have hcx := hbx.cell
      have hkn : 49 * k < len := by have := HNE.out; omega
      have hsl := slice_part R len cap k hkn hcap
      have hmn : min ((k : Int) * 49 + 49) (len : Int) = ((min (49 * k + 49) len : Nat) : Int) := by omega
      dsimp only [encP] at hy
      generalize hM : min (49 * k + 49) len = M at *
      clear hM
      gi_wp2
      refine ⟨fun h => (by cases h), ?_⟩
      refine hR.mono ?_
      rintro e W3 (⟨rfl, hJ3, hk3⟩ | ⟨rfl, hJx3⟩)
      · have hb3 : Boxed W3 Bs 24 (.slice (some R) len cap) := hk3.trans hbx
        gi_wp2
        go_roundw
        case rel => exact ⟨k + 1, by omega, by go_num, by rw [List.range_succ]; exact hJ3, hb3⟩
        case measure => simp [intOf]; omega
      · gi_wp2
        refine bodyPost_ret (results_none rfl _ _ _) rfl ?_
        exact ⟨⟨_, rfl⟩, .inr ⟨_, ⟨k + 1, by omega, by rw [List.range_succ]⟩, hJx3⟩⟩
    · obtain rfl : k = N := by omega
      gi_wp2
      go_end0
      exact ⟨⟨_, rfl⟩, .inl ⟨_, rfl, hJs⟩⟩
end Go.Proofs.Ytmedmeabjlmggaa
