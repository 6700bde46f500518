/- strings.Cut at one byte, TrimLeft at 0, Repeat of a few 0. -/
import Derived.OwnWalk
import Derived.Test.YtglcififcldchaaGreatDoorPRj
import Derived.Test.YtglcififcldchaaGreatDoorPSh
namespace Go.Proofs.YtglcififcldchaaGreatDoor
open Go.RowKit
attribute [local go_sem ↓] Go.wp_at_zero Go.wp_at_succ
set_option linter.unusedVariables false

set_option maxHeartbeats 1000000 in
theorem lcut_yes (s : ByteArray) (c : UInt8) (i : Nat) (w : World) (h : Lib.indexByte s.data.toList c = i) (hi : i < s.size) (hs : s.size ≤ 4611686018427387904) :
    Calls Tryz.prog 136 #[.string s, .string ⟨#[c]⟩] w fun e w' => e = .returned (.tuple #[.string (s.extract 0 i), .string (s.extract (i + 1) s.size), .bool true]) ∧ Below w.heap.size w w' := by
  have D : Hid (Calls Tryz.prog 152 #[.string s, .string ⟨#[c]⟩] w fun e w' => e = .returned (.int .i64 (i : Int)) ∧ w' = w) := by
    have := Tryz.stringslite_Index_one s c w
    rw [h] at this
    exact this
  have hw : IntKind.i64.wrap ((i : Int) + 1) = (i : Int) + 1 := by unfold IntKind.wrap; simp [IntKind.bits]; omega
  have g1 : (i : Int) ≥ 0 := by omega
  have g2 : (i : Int) ≤ (s.size : Int) := by omega
  have g3 : (i : Int) + 1 ≤ (s.size : Int) := by omega
  have g4 : (0 : Int) ≤ (i : Int) + 1 := by omega
  have t1 : ((i : Int)).toNat = i := by omega
  have t2 : ((i : Int) + 1).toNat = i + 1 := by omega
  clear h hi
  go_enter Tryz.func136, Tryz.ntmps136
  go_wp2_with fail
  refine D.out.mono ?_
  rintro e w1 ⟨rfl, rfl⟩
  clear D
  go_wp2
  go_region
  go_wp2
  go_ret3
  exact ⟨rfl, (Below.refl _ _).drew⟩
set_option maxHeartbeats 1000000 in
theorem lcut_no (s : ByteArray) (c : UInt8) (w : World) (h : Lib.indexByte s.data.toList c = -1) :
    Calls Tryz.prog 136 #[.string s, .string ⟨#[c]⟩] w fun e w' => e = .returned (.tuple #[.string s, .string ⟨#[]⟩, .bool false]) ∧ Below w.heap.size w w' := by
  have D : Hid (Calls Tryz.prog 152 #[.string s, .string ⟨#[c]⟩] w fun e w' => e = .returned (.int .i64 (-1)) ∧ w' = w) := by
    have := Tryz.stringslite_Index_one s c w
    rw [h] at this
    exact this
  clear h
  go_enter Tryz.func136, Tryz.ntmps136
  go_wp2_with fail
  refine D.out.mono ?_
  rintro e w1 ⟨rfl, rfl⟩
  clear D
  go_wp2
  go_ret3
  exact ⟨rfl, Below.refl _ _⟩
theorem cut_yes (s : ByteArray) (c : UInt8) (i : Nat) (w : World) (h : Lib.indexByte s.data.toList c = i) (hi : i < s.size) (hs : s.size ≤ 4611686018427387904) :
    Calls Tryz.prog 108 #[.string s, .string ⟨#[c]⟩] w fun e w' => e = .returned (.tuple #[.string (s.extract 0 i), .string (s.extract (i + 1) s.size), .bool true]) ∧ Below w.heap.size w w' := by
  have D := Lib.hid (lcut_yes s c i w h hi hs)
  clear h hi hs
  go_enter Tryz.func108, Tryz.ntmps108
  go_wp2_with fail
  refine D.out.mono ?_
  rintro e w1 ⟨rfl, hb⟩
  clear D
  go_wp2
  go_ret3
  exact ⟨rfl, hb⟩
theorem cut_no (s : ByteArray) (c : UInt8) (w : World) (h : Lib.indexByte s.data.toList c = -1) :
    Calls Tryz.prog 108 #[.string s, .string ⟨#[c]⟩] w fun e w' => e = .returned (.tuple #[.string s, .string ⟨#[]⟩, .bool false]) ∧ Below w.heap.size w w' := by
  have D := Lib.hid (lcut_no s c w h)
  clear h
  go_enter Tryz.func108, Tryz.ntmps108
  go_wp2_with fail
  refine D.out.mono ?_
  rintro e w1 ⟨rfl, hb⟩
  clear D
  go_wp2
  go_ret3
  exact ⟨rfl, hb⟩
def zeros (n : Nat) : ByteArray := ⟨(List.replicate n 48).toArray⟩
theorem zeros_cut : ∀ n, n < 65 → (⟨#[48, 48, 48, 48, 48, 48, 48, 48, 48, 48, 48, 48, 48, 48, 48, 48, 48, 48, 48, 48, 48, 48, 48, 48, 48, 48, 48, 48, 48, 48, 48, 48, 48, 48, 48, 48, 48, 48, 48, 48, 48, 48, 48, 48, 48, 48, 48, 48, 48, 48, 48, 48, 48, 48, 48, 48, 48, 48, 48, 48, 48, 48, 48, 48]⟩ : ByteArray).extract 0 n = zeros n := by
  intro n hn
  have h : ((List.range 65).all fun n => ((⟨#[48, 48, 48, 48, 48, 48, 48, 48, 48, 48, 48, 48, 48, 48, 48, 48, 48, 48, 48, 48, 48, 48, 48, 48, 48, 48, 48, 48, 48, 48, 48, 48, 48, 48, 48, 48, 48, 48, 48, 48, 48, 48, 48, 48, 48, 48, 48, 48, 48, 48, 48, 48, 48, 48, 48, 48, 48, 48, 48, 48, 48, 48, 48, 48]⟩ : ByteArray).extract 0 n).data == (zeros n).data) = true := by kernel_rfl
  have := List.all_eq_true.1 h n (List.mem_range.2 hn)
  exact ByteArray.ext (by simpa using this)
set_option maxRecDepth 100000 in
set_option maxHeartbeats 4000000 in
theorem repeat_few (n : Nat) (w : World) (h2 : 2 ≤ n) (hn : n ≤ 64) :
    Calls Tryz.prog 140 #[.string ⟨#[48]⟩, .int .i64 (n : Int)] w fun e w' => e = .returned (.string (zeros n)) ∧ Below w.heap.size w w' := by
  have M : Hid (Calls Tryz.prog 157 #[.int .u64 1, .int .u64 (n : Int)] w fun e w' => e = .returned (.tuple #[.int .u64 0, .int .u64 (n : Int)]) ∧ w' = w) := by
    have := Tryz.bits_Mul 1 n (by omega) (by omega) w
    rw [Nat.one_mul, Nat.div_eq_of_lt (by omega), Nat.mod_eq_of_lt (by omega)] at this
    exact this
  have Z := Lib.hid (zeros_cut n (by omega))
  have g0 : ¬ (n : Int) = 0 := by omega
  have g1 : ¬ (n : Int) = 1 := by omega
  have g2 : ¬ (n : Int) < 0 := by omega
  have g3 : (n : Int) ≤ 64 := by omega
  have g4 : (n : Int) ≤ 128 := by omega
  have g5 : (n : Int) ≥ 0 := by omega
  have b0 : ((n : Int) == 0) = false := by rw [beq_eq_false_iff_ne]; omega
  have b1 : ((n : Int) == 1) = false := by rw [beq_eq_false_iff_ne]; omega
  have g6 : ¬ (n : Int) > 9223372036854775807 := by omega
  have w1 : IntKind.u64.wrap (n : Int) = (n : Int) := by unfold IntKind.wrap; simp [IntKind.bits]; omega
  have w2 : IntKind.i64.wrap (n : Int) = (n : Int) := by unfold IntKind.wrap; simp [IntKind.bits]; omega
  have t1 : ((n : Int)).toNat = n := by omega
  clear h2 hn
  go_enter Tryz.func140, Tryz.ntmps140
  go_wp2_with fail
  refine M.out.mono ?_
  rintro e w3 ⟨rfl, rfl⟩
  clear M
  go_wp2_with (refine Calls.mono (Tryz.strings_HasPrefix _ _ _) ?_; rintro e w4 ⟨rfl, rfl⟩)
  go_ret
  exact ⟨by rw [← Z.out]; rfl, Below.refl _ _⟩
end Go.Proofs.YtglcififcldchaaGreatDoor
