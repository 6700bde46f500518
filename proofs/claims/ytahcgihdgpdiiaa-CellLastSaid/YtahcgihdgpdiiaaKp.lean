/- The walk of CellLast. -/
import Derived.Test.YtahcgihdgpdiiaaKo
namespace Go.Proofs.Ytahcgihdgpdiiaa
open Go.RowKit
set_option linter.unusedSimpArgs false
set_option linter.unusedVariables false

def CellLastPost (w w' : World) (e : Ending) : Prop := e = .returned (.bool true) ∧ Below w.heap.size w w'
theorem Byt.rdS {w : World} {A : Option Addr} {n c : Nat} {f : Nat → Nat} (h : Byt w (.slice A n c) n f) : Rd .u8 w A n f := by
  obtain ⟨A', c', h1, _, h3, _⟩ := h
  cases h1
  exact h3

set_option maxRecDepth 20000 in
set_option maxHeartbeats 4000000 in
theorem last_no (n : Nat) (p q : Int) (w : World) (hn : n < 256) (hq : -9223372036854775808 ≤ q ∧ q ≤ 9223372036854775807) (hp : -9223372036854775808 ≤ p ∧ p ≤ 9223372036854775807) (hm : ¬ mayP p q (n % 60)) :
    Calls Try.prog 9 #[.int .u8 (n : Nat), .int .i64 (p), .int .i64 q] w fun e w' => CellLastPost w w' e := by
  have hk : n % 60 < 60 := Nat.mod_lt _ (by decide)
  have hkI : (n : Int) % 60 = ((n % 60 : Nat) : Int) := by omega
  generalize n % 60 = k at *
  have HM := Lib.hid hm
  by_cases c0 : q < 1
  · clear hm
    go_enter Try.func9, Try.ntmps9
    go_wp2_with (first
    | (go_at_call 10; refine (awake_any _).mono ?_; rintro e w1 ⟨rfl, hb1⟩)
    | (at_make; refine wpList_make_row rfl _ _ 23 rfl .u8 5 Try.underlying23 1 u8_info (by omega) _ _ _ _ k rfl rfl (by omega) (by omega) (by omega) ?_; intro w2 hrow2 hb2 hs2; have hz2 := zeros_byt hrow2; have HZ := Lib.hid (hz2.below (below_new _ (.cells #[.int .u32 1, .int .u32 2, .int .i64 p, .int .i64 q, .slice (some ⟨w1.heap.size, 0, none⟩) k k] 25))); have hX2 := BoxC.new w2 1 2 p q (some ⟨w1.heap.size, 0, none⟩) k k; rw [hs2] at hX2; have HX := Lib.hid hX2; clear hX2; have hb3 := bbt (bbt hb1 hb2) (below_new _ (.cells #[.int .u32 1, .int .u32 2, .int .i64 p, .int .i64 q, .slice (some ⟨w1.heap.size, 0, none⟩) k k] 25)); obtain ⟨x0, x1, x2, x3, x4⟩ := HX.out; have hxl := HX.out.lt; clear hrow2 hz2 hb1 hb2)
    | (go_at_call 11; refine Calls.mono (encode_ino u32_1 u32_2 (by omega) HM.out) ?_; rintro e w4 ⟨rfl, hb4⟩; have HX4 := Lib.hid (HX.out.below hb4); have hb5 := bbt hb3 hb4; clear hb3 hb4)
    | (go_at_call 13; refine Calls.mono (decode_ino (m := 0) (h := fun _ => 0) byt_none (by omega) (fun h => absurd h.1 (by decide))) ?_; rintro e w6 ⟨rfl, hb6⟩; have HX6 := Lib.hid ((HX4.out.below hb6).below (below_new _ (.cells #[.int .u32 0, .int .u32 0, .int .i64 0, .int .i64 0, .slice none 0 0] 25))); have hb7 := bbt (bbt hb5 hb6) (below_new _ (.cells #[.int .u32 0, .int .u32 0, .int .i64 0, .int .i64 0, .slice none 0 0] 25)); clear x0 x1 x2 x3 x4 hxl; obtain ⟨x0, x1, x2, x3, x4⟩ := HX6.out; have hxl := HX6.out.lt; clear hb5 hb6)
    | (go_at_call 17; refine Calls.mono (may_i u32_1 u32_2 (by omega)) ?_; rintro e w8 ⟨rfl, hb8⟩; rw [decide_eq_false HM.out]; have hb9 := bbt hb7 hb8; clear hb7 hb8))
    go_ret
    exact ⟨rfl, hb9⟩
  by_cases c1 : 8 < q
  · clear hm
    go_enter Try.func9, Try.ntmps9
    go_wp2_with (first
    | (go_at_call 10; refine (awake_any _).mono ?_; rintro e w1 ⟨rfl, hb1⟩)
    | (at_make; refine wpList_make_row rfl _ _ 23 rfl .u8 5 Try.underlying23 1 u8_info (by omega) _ _ _ _ k rfl rfl (by omega) (by omega) (by omega) ?_; intro w2 hrow2 hb2 hs2; have hz2 := zeros_byt hrow2; have HZ := Lib.hid (hz2.below (below_new _ (.cells #[.int .u32 1, .int .u32 2, .int .i64 p, .int .i64 q, .slice (some ⟨w1.heap.size, 0, none⟩) k k] 25))); have hX2 := BoxC.new w2 1 2 p q (some ⟨w1.heap.size, 0, none⟩) k k; rw [hs2] at hX2; have HX := Lib.hid hX2; clear hX2; have hb3 := bbt (bbt hb1 hb2) (below_new _ (.cells #[.int .u32 1, .int .u32 2, .int .i64 p, .int .i64 q, .slice (some ⟨w1.heap.size, 0, none⟩) k k] 25)); obtain ⟨x0, x1, x2, x3, x4⟩ := HX.out; have hxl := HX.out.lt; clear hrow2 hz2 hb1 hb2)
    | (go_at_call 11; refine Calls.mono (encode_ino u32_1 u32_2 (by omega) HM.out) ?_; rintro e w4 ⟨rfl, hb4⟩; have HX4 := Lib.hid (HX.out.below hb4); have hb5 := bbt hb3 hb4; clear hb3 hb4)
    | (go_at_call 13; refine Calls.mono (decode_ino (m := 0) (h := fun _ => 0) byt_none (by omega) (fun h => absurd h.1 (by decide))) ?_; rintro e w6 ⟨rfl, hb6⟩; have HX6 := Lib.hid ((HX4.out.below hb6).below (below_new _ (.cells #[.int .u32 0, .int .u32 0, .int .i64 0, .int .i64 0, .slice none 0 0] 25))); have hb7 := bbt (bbt hb5 hb6) (below_new _ (.cells #[.int .u32 0, .int .u32 0, .int .i64 0, .int .i64 0, .slice none 0 0] 25)); clear x0 x1 x2 x3 x4 hxl; obtain ⟨x0, x1, x2, x3, x4⟩ := HX6.out; have hxl := HX6.out.lt; clear hb5 hb6)
    | (go_at_call 17; refine Calls.mono (may_i u32_1 u32_2 (by omega)) ?_; rintro e w8 ⟨rfl, hb8⟩; rw [decide_eq_false HM.out]; have hb9 := bbt hb7 hb8; clear hb7 hb8))
    go_ret
    exact ⟨rfl, hb9⟩
  by_cases c2 : p < 0
  · clear hm
    go_enter Try.func9, Try.ntmps9
    go_wp2_with (first
    | (go_at_call 10; refine (awake_any _).mono ?_; rintro e w1 ⟨rfl, hb1⟩)
    | (at_make; refine wpList_make_row rfl _ _ 23 rfl .u8 5 Try.underlying23 1 u8_info (by omega) _ _ _ _ k rfl rfl (by omega) (by omega) (by omega) ?_; intro w2 hrow2 hb2 hs2; have hz2 := zeros_byt hrow2; have HZ := Lib.hid (hz2.below (below_new _ (.cells #[.int .u32 1, .int .u32 2, .int .i64 p, .int .i64 q, .slice (some ⟨w1.heap.size, 0, none⟩) k k] 25))); have hX2 := BoxC.new w2 1 2 p q (some ⟨w1.heap.size, 0, none⟩) k k; rw [hs2] at hX2; have HX := Lib.hid hX2; clear hX2; have hb3 := bbt (bbt hb1 hb2) (below_new _ (.cells #[.int .u32 1, .int .u32 2, .int .i64 p, .int .i64 q, .slice (some ⟨w1.heap.size, 0, none⟩) k k] 25)); obtain ⟨x0, x1, x2, x3, x4⟩ := HX.out; have hxl := HX.out.lt; clear hrow2 hz2 hb1 hb2)
    | (go_at_call 11; refine Calls.mono (encode_ino u32_1 u32_2 (by omega) HM.out) ?_; rintro e w4 ⟨rfl, hb4⟩; have HX4 := Lib.hid (HX.out.below hb4); have hb5 := bbt hb3 hb4; clear hb3 hb4)
    | (go_at_call 13; refine Calls.mono (decode_ino (m := 0) (h := fun _ => 0) byt_none (by omega) (fun h => absurd h.1 (by decide))) ?_; rintro e w6 ⟨rfl, hb6⟩; have HX6 := Lib.hid ((HX4.out.below hb6).below (below_new _ (.cells #[.int .u32 0, .int .u32 0, .int .i64 0, .int .i64 0, .slice none 0 0] 25))); have hb7 := bbt (bbt hb5 hb6) (below_new _ (.cells #[.int .u32 0, .int .u32 0, .int .i64 0, .int .i64 0, .slice none 0 0] 25)); clear x0 x1 x2 x3 x4 hxl; obtain ⟨x0, x1, x2, x3, x4⟩ := HX6.out; have hxl := HX6.out.lt; clear hb5 hb6)
    | (go_at_call 17; refine Calls.mono (may_i u32_1 u32_2 (by omega)) ?_; rintro e w8 ⟨rfl, hb8⟩; rw [decide_eq_false HM.out]; have hb9 := bbt hb7 hb8; clear hb7 hb8))
    go_ret
    exact ⟨rfl, hb9⟩
  by_cases c3 : q ≤ p
  · clear hm
    go_enter Try.func9, Try.ntmps9
    go_wp2_with (first
    | (go_at_call 10; refine (awake_any _).mono ?_; rintro e w1 ⟨rfl, hb1⟩)
    | (at_make; refine wpList_make_row rfl _ _ 23 rfl .u8 5 Try.underlying23 1 u8_info (by omega) _ _ _ _ k rfl rfl (by omega) (by omega) (by omega) ?_; intro w2 hrow2 hb2 hs2; have hz2 := zeros_byt hrow2; have HZ := Lib.hid (hz2.below (below_new _ (.cells #[.int .u32 1, .int .u32 2, .int .i64 p, .int .i64 q, .slice (some ⟨w1.heap.size, 0, none⟩) k k] 25))); have hX2 := BoxC.new w2 1 2 p q (some ⟨w1.heap.size, 0, none⟩) k k; rw [hs2] at hX2; have HX := Lib.hid hX2; clear hX2; have hb3 := bbt (bbt hb1 hb2) (below_new _ (.cells #[.int .u32 1, .int .u32 2, .int .i64 p, .int .i64 q, .slice (some ⟨w1.heap.size, 0, none⟩) k k] 25)); obtain ⟨x0, x1, x2, x3, x4⟩ := HX.out; have hxl := HX.out.lt; clear hrow2 hz2 hb1 hb2)
    | (go_at_call 11; refine Calls.mono (encode_ino u32_1 u32_2 (by omega) HM.out) ?_; rintro e w4 ⟨rfl, hb4⟩; have HX4 := Lib.hid (HX.out.below hb4); have hb5 := bbt hb3 hb4; clear hb3 hb4)
    | (go_at_call 13; refine Calls.mono (decode_ino (m := 0) (h := fun _ => 0) byt_none (by omega) (fun h => absurd h.1 (by decide))) ?_; rintro e w6 ⟨rfl, hb6⟩; have HX6 := Lib.hid ((HX4.out.below hb6).below (below_new _ (.cells #[.int .u32 0, .int .u32 0, .int .i64 0, .int .i64 0, .slice none 0 0] 25))); have hb7 := bbt (bbt hb5 hb6) (below_new _ (.cells #[.int .u32 0, .int .u32 0, .int .i64 0, .int .i64 0, .slice none 0 0] 25)); clear x0 x1 x2 x3 x4 hxl; obtain ⟨x0, x1, x2, x3, x4⟩ := HX6.out; have hxl := HX6.out.lt; clear hb5 hb6)
    | (go_at_call 17; refine Calls.mono (may_i u32_1 u32_2 (by omega)) ?_; rintro e w8 ⟨rfl, hb8⟩; rw [decide_eq_false HM.out]; have hb9 := bbt hb7 hb8; clear hb7 hb8))
    go_ret
    exact ⟨rfl, hb9⟩
  by_cases c4 : k < 1
  · clear hm
    go_enter Try.func9, Try.ntmps9
    go_wp2_with (first
    | (go_at_call 10; refine (awake_any _).mono ?_; rintro e w1 ⟨rfl, hb1⟩)
    | (at_make; refine wpList_make_row rfl _ _ 23 rfl .u8 5 Try.underlying23 1 u8_info (by omega) _ _ _ _ k rfl rfl (by omega) (by omega) (by omega) ?_; intro w2 hrow2 hb2 hs2; have hz2 := zeros_byt hrow2; have HZ := Lib.hid (hz2.below (below_new _ (.cells #[.int .u32 1, .int .u32 2, .int .i64 p, .int .i64 q, .slice (some ⟨w1.heap.size, 0, none⟩) k k] 25))); have hX2 := BoxC.new w2 1 2 p q (some ⟨w1.heap.size, 0, none⟩) k k; rw [hs2] at hX2; have HX := Lib.hid hX2; clear hX2; have hb3 := bbt (bbt hb1 hb2) (below_new _ (.cells #[.int .u32 1, .int .u32 2, .int .i64 p, .int .i64 q, .slice (some ⟨w1.heap.size, 0, none⟩) k k] 25)); obtain ⟨x0, x1, x2, x3, x4⟩ := HX.out; have hxl := HX.out.lt; clear hrow2 hz2 hb1 hb2)
    | (go_at_call 11; refine Calls.mono (encode_ino u32_1 u32_2 (by omega) HM.out) ?_; rintro e w4 ⟨rfl, hb4⟩; have HX4 := Lib.hid (HX.out.below hb4); have hb5 := bbt hb3 hb4; clear hb3 hb4)
    | (go_at_call 13; refine Calls.mono (decode_ino (m := 0) (h := fun _ => 0) byt_none (by omega) (fun h => absurd h.1 (by decide))) ?_; rintro e w6 ⟨rfl, hb6⟩; have HX6 := Lib.hid ((HX4.out.below hb6).below (below_new _ (.cells #[.int .u32 0, .int .u32 0, .int .i64 0, .int .i64 0, .slice none 0 0] 25))); have hb7 := bbt (bbt hb5 hb6) (below_new _ (.cells #[.int .u32 0, .int .u32 0, .int .i64 0, .int .i64 0, .slice none 0 0] 25)); clear x0 x1 x2 x3 x4 hxl; obtain ⟨x0, x1, x2, x3, x4⟩ := HX6.out; have hxl := HX6.out.lt; clear hb5 hb6)
    | (go_at_call 17; refine Calls.mono (may_i u32_1 u32_2 (by omega)) ?_; rintro e w8 ⟨rfl, hb8⟩; rw [decide_eq_false HM.out]; have hb9 := bbt hb7 hb8; clear hb7 hb8))
    go_ret
    exact ⟨rfl, hb9⟩
  by_cases c5 : 49 < k
  · clear hm
    go_enter Try.func9, Try.ntmps9
    go_wp2_with (first
    | (go_at_call 10; refine (awake_any _).mono ?_; rintro e w1 ⟨rfl, hb1⟩)
    | (at_make; refine wpList_make_row rfl _ _ 23 rfl .u8 5 Try.underlying23 1 u8_info (by omega) _ _ _ _ k rfl rfl (by omega) (by omega) (by omega) ?_; intro w2 hrow2 hb2 hs2; have hz2 := zeros_byt hrow2; have HZ := Lib.hid (hz2.below (below_new _ (.cells #[.int .u32 1, .int .u32 2, .int .i64 p, .int .i64 q, .slice (some ⟨w1.heap.size, 0, none⟩) k k] 25))); have hX2 := BoxC.new w2 1 2 p q (some ⟨w1.heap.size, 0, none⟩) k k; rw [hs2] at hX2; have HX := Lib.hid hX2; clear hX2; have hb3 := bbt (bbt hb1 hb2) (below_new _ (.cells #[.int .u32 1, .int .u32 2, .int .i64 p, .int .i64 q, .slice (some ⟨w1.heap.size, 0, none⟩) k k] 25)); obtain ⟨x0, x1, x2, x3, x4⟩ := HX.out; have hxl := HX.out.lt; clear hrow2 hz2 hb1 hb2)
    | (go_at_call 11; refine Calls.mono (encode_ino u32_1 u32_2 (by omega) HM.out) ?_; rintro e w4 ⟨rfl, hb4⟩; have HX4 := Lib.hid (HX.out.below hb4); have hb5 := bbt hb3 hb4; clear hb3 hb4)
    | (go_at_call 13; refine Calls.mono (decode_ino (m := 0) (h := fun _ => 0) byt_none (by omega) (fun h => absurd h.1 (by decide))) ?_; rintro e w6 ⟨rfl, hb6⟩; have HX6 := Lib.hid ((HX4.out.below hb6).below (below_new _ (.cells #[.int .u32 0, .int .u32 0, .int .i64 0, .int .i64 0, .slice none 0 0] 25))); have hb7 := bbt (bbt hb5 hb6) (below_new _ (.cells #[.int .u32 0, .int .u32 0, .int .i64 0, .int .i64 0, .slice none 0 0] 25)); clear x0 x1 x2 x3 x4 hxl; obtain ⟨x0, x1, x2, x3, x4⟩ := HX6.out; have hxl := HX6.out.lt; clear hb5 hb6)
    | (go_at_call 17; refine Calls.mono (may_i u32_1 u32_2 (by omega)) ?_; rintro e w8 ⟨rfl, hb8⟩; rw [decide_eq_false HM.out]; have hb9 := bbt hb7 hb8; clear hb7 hb8))
    go_ret
    exact ⟨rfl, hb9⟩
  have c6 : ¬ (p = q - 1) := fun h => hm (by unfold mayP; omega)
  have c7 : ¬ ((k : Int) = 49) := fun h => hm (by unfold mayP; omega)
  clear hm
  have c8 : (p == q - 1) = false := by rw [beq_eq_false_iff_ne]; exact c6
  have c9 : ((k : Int) == 49) = false := by rw [beq_eq_false_iff_ne]; exact c7
  go_enter Try.func9, Try.ntmps9
  go_wp2_with (first
    | (go_at_call 10; refine (awake_any _).mono ?_; rintro e w1 ⟨rfl, hb1⟩)
    | (at_make; refine wpList_make_row rfl _ _ 23 rfl .u8 5 Try.underlying23 1 u8_info (by omega) _ _ _ _ k rfl rfl (by omega) (by omega) (by omega) ?_; intro w2 hrow2 hb2 hs2; have hz2 := zeros_byt hrow2; have HZ := Lib.hid (hz2.below (below_new _ (.cells #[.int .u32 1, .int .u32 2, .int .i64 p, .int .i64 q, .slice (some ⟨w1.heap.size, 0, none⟩) k k] 25))); have hX2 := BoxC.new w2 1 2 p q (some ⟨w1.heap.size, 0, none⟩) k k; rw [hs2] at hX2; have HX := Lib.hid hX2; clear hX2; have hb3 := bbt (bbt hb1 hb2) (below_new _ (.cells #[.int .u32 1, .int .u32 2, .int .i64 p, .int .i64 q, .slice (some ⟨w1.heap.size, 0, none⟩) k k] 25)); obtain ⟨x0, x1, x2, x3, x4⟩ := HX.out; have hxl := HX.out.lt; clear hrow2 hz2 hb1 hb2)
    | (go_at_call 11; refine Calls.mono (encode_ino u32_1 u32_2 (by omega) HM.out) ?_; rintro e w4 ⟨rfl, hb4⟩; have HX4 := Lib.hid (HX.out.below hb4); have hb5 := bbt hb3 hb4; clear hb3 hb4)
    | (go_at_call 13; refine Calls.mono (decode_ino (m := 0) (h := fun _ => 0) byt_none (by omega) (fun h => absurd h.1 (by decide))) ?_; rintro e w6 ⟨rfl, hb6⟩; have HX6 := Lib.hid ((HX4.out.below hb6).below (below_new _ (.cells #[.int .u32 0, .int .u32 0, .int .i64 0, .int .i64 0, .slice none 0 0] 25))); have hb7 := bbt (bbt hb5 hb6) (below_new _ (.cells #[.int .u32 0, .int .u32 0, .int .i64 0, .int .i64 0, .slice none 0 0] 25)); clear x0 x1 x2 x3 x4 hxl; obtain ⟨x0, x1, x2, x3, x4⟩ := HX6.out; have hxl := HX6.out.lt; clear hb5 hb6)
    | (go_at_call 17; refine Calls.mono (may_i u32_1 u32_2 (by omega)) ?_; rintro e w8 ⟨rfl, hb8⟩; rw [decide_eq_false HM.out]; have hb9 := bbt hb7 hb8; clear hb7 hb8))
  go_ret
  exact ⟨rfl, hb9⟩

set_option maxRecDepth 20000 in
set_option maxHeartbeats 4000000 in
theorem last_yes1 (n : Nat) (q : Int) (w : World) (hn : n < 256) (hq : -9223372036854775808 ≤ q ∧ q ≤ 9223372036854775807) (hp : -9223372036854775808 ≤ q - 1 ∧ q - 1 ≤ 9223372036854775807) (hm : mayP (q - 1) q (n % 60)) :
    Calls Try.prog 9 #[.int .u8 (n : Nat), .int .i64 (q - 1), .int .i64 q] w fun e w' => CellLastPost w w' e := by
  have hk : n % 60 < 60 := Nat.mod_lt _ (by decide)
  have hkI : (n : Int) % 60 = ((n % 60 : Nat) : Int) := by omega
  generalize n % 60 = k at *
  have HM := Lib.hid hm
  unfold mayP at hm
  obtain ⟨c1, c2, c3, c4, c5, c6, _⟩ := hm
  go_enter Try.func9, Try.ntmps9
  go_wp2_with (first
    | (go_at_call 10; refine (awake_any _).mono ?_; rintro e w1 ⟨rfl, hb1⟩)
    | (at_make; refine wpList_make_row rfl _ _ 23 rfl .u8 5 Try.underlying23 1 u8_info (by omega) _ _ _ _ k rfl rfl (by omega) (by omega) (by omega) ?_; intro w2 hrow2 hb2 hs2; have hz2 := zeros_byt hrow2; have HZ := Lib.hid (hz2.below (below_new _ (.cells #[.int .u32 1, .int .u32 2, .int .i64 (q - 1), .int .i64 q, .slice (some ⟨w1.heap.size, 0, none⟩) k k] 25))); have hX2 := BoxC.new w2 1 2 (q - 1) q (some ⟨w1.heap.size, 0, none⟩) k k; rw [hs2] at hX2; have HX := Lib.hid hX2; clear hX2; have hb3 := bbt (bbt hb1 hb2) (below_new _ (.cells #[.int .u32 1, .int .u32 2, .int .i64 (q - 1), .int .i64 q, .slice (some ⟨w1.heap.size, 0, none⟩) k k] 25)); obtain ⟨x0, x1, x2, x3, x4⟩ := HX.out; have hxl := HX.out.lt; clear hrow2 hz2 hb1 hb2)
    | (go_at_call 11; refine Calls.mono (encode_i u32_1 u32_2 HZ.out.rdS HZ.out.lt HM.out) ?_; rintro e w4 ⟨⟨v4, rfl, hv4⟩, hb4⟩; have HV4 := Lib.hid hv4; have HX4 := Lib.hid (HX.out.below hb4); have HZ4 := Lib.hid (HZ.out.below hb4); have hb5 := bbt hb3 hb4; clear hb3 hb4 hv4)
    | (go_at_call 13; refine Calls.mono (decode_i u32_1 u32_2 HM.out HZ4.out.lt HV4.out) ?_; rintro e w6 ⟨⟨B, cB, rfl, hv6⟩, hb6⟩; have HX6 := Lib.hid ((HX4.out.below hb6).below (below_new _ (.cells #[.int .u32 1, .int .u32 2, .int .i64 (q - 1), .int .i64 q, .slice B k cB] 25))); have HY6 := Lib.hid (BoxC.new w6 1 2 (q - 1) q B k cB); have HA6 := Lib.hid ((HZ4.out.below hb6).below (below_new _ (.cells #[.int .u32 1, .int .u32 2, .int .i64 (q - 1), .int .i64 q, .slice B k cB] 25))); have HB6 := Lib.hid (hv6.below (below_new _ (.cells #[.int .u32 1, .int .u32 2, .int .i64 (q - 1), .int .i64 q, .slice B k cB] 25))); have hb7 := bbt (bbt hb5 hb6) (below_new _ (.cells #[.int .u32 1, .int .u32 2, .int .i64 (q - 1), .int .i64 q, .slice B k cB] 25)); clear x0 x1 x2 x3 x4 hxl; obtain ⟨x0, x1, x2, x3, x4⟩ := HX6.out; have hxl := HX6.out.lt; obtain ⟨y0, y1, y2, y3, y4⟩ := HY6.out; have hyl := HY6.out.lt; clear hb5 hb6 hv6)
    | (go_at_call 15; refine Calls.mono (rows_by HB6.out HA6.out (by omega) (by omega)) ?_; rintro e w8 ⟨⟨b, rfl, hb⟩, hb8⟩; obtain rfl := hb.2 ⟨rfl, fun j _ => rfl⟩; have HX8 := Lib.hid (HX6.out.below hb8); have hb9 := bbt hb7 hb8; clear hb hb7 hb8 x0 x1 x2 x3 x4 hxl y0 y1 y2 y3 y4; obtain ⟨x0, x1, x2, x3, x4⟩ := HX8.out; have hxl := HX8.out.lt)
    | (go_at_call 17; refine Calls.mono (may_i u32_1 u32_2 (by omega)) ?_; rintro e w10 ⟨rfl, hb10⟩; rw [decide_eq_true HM.out]; have hb11 := bbt hb9 hb10; clear hb9 hb10))
  go_ret
  exact ⟨rfl, hb11⟩

set_option maxRecDepth 20000 in
set_option maxHeartbeats 4000000 in
theorem last_yes2 (n : Nat) (p q : Int) (w : World) (hn : n < 256) (hq : -9223372036854775808 ≤ q ∧ q ≤ 9223372036854775807) (hp : -9223372036854775808 ≤ p ∧ p ≤ 9223372036854775807) (hm : mayP p q (n % 60)) (hpq : ¬ p = q - 1) :
    Calls Try.prog 9 #[.int .u8 (n : Nat), .int .i64 (p), .int .i64 q] w fun e w' => CellLastPost w w' e := by
  have hk : n % 60 < 60 := Nat.mod_lt _ (by decide)
  have hkI : (n : Int) % 60 = ((n % 60 : Nat) : Int) := by omega
  generalize n % 60 = k at *
  have HM := Lib.hid hm
  unfold mayP at hm
  obtain ⟨c1, c2, c3, c4, c5, c6, c7⟩ := hm
  have c8 : (k : Int) = 49 := by omega
  obtain rfl : k = 49 := by omega
  clear c7 c8
  go_enter Try.func9, Try.ntmps9
  go_wp2_with (first
    | (go_at_call 10; refine (awake_any _).mono ?_; rintro e w1 ⟨rfl, hb1⟩)
    | (at_make; refine wpList_make_row rfl _ _ 23 rfl .u8 5 Try.underlying23 1 u8_info (by omega) _ _ _ _ 49 rfl rfl (by omega) (by omega) (by omega) ?_; intro w2 hrow2 hb2 hs2; have hz2 := zeros_byt hrow2; have HZ := Lib.hid (hz2.below (below_new _ (.cells #[.int .u32 1, .int .u32 2, .int .i64 p, .int .i64 q, .slice (some ⟨w1.heap.size, 0, none⟩) 49 49] 25))); have hX2 := BoxC.new w2 1 2 p q (some ⟨w1.heap.size, 0, none⟩) 49 49; rw [hs2] at hX2; have HX := Lib.hid hX2; clear hX2; have hb3 := bbt (bbt hb1 hb2) (below_new _ (.cells #[.int .u32 1, .int .u32 2, .int .i64 p, .int .i64 q, .slice (some ⟨w1.heap.size, 0, none⟩) 49 49] 25)); obtain ⟨x0, x1, x2, x3, x4⟩ := HX.out; have hxl := HX.out.lt; clear hrow2 hz2 hb1 hb2)
    | (go_at_call 11; refine Calls.mono (encode_i u32_1 u32_2 HZ.out.rdS HZ.out.lt HM.out) ?_; rintro e w4 ⟨⟨v4, rfl, hv4⟩, hb4⟩; have HV4 := Lib.hid hv4; have HX4 := Lib.hid (HX.out.below hb4); have HZ4 := Lib.hid (HZ.out.below hb4); have hb5 := bbt hb3 hb4; clear hb3 hb4 hv4)
    | (go_at_call 13; refine Calls.mono (decode_i u32_1 u32_2 HM.out HZ4.out.lt HV4.out) ?_; rintro e w6 ⟨⟨B, cB, rfl, hv6⟩, hb6⟩; have HX6 := Lib.hid ((HX4.out.below hb6).below (below_new _ (.cells #[.int .u32 1, .int .u32 2, .int .i64 p, .int .i64 q, .slice B 49 cB] 25))); have HY6 := Lib.hid (BoxC.new w6 1 2 p q B 49 cB); have HA6 := Lib.hid ((HZ4.out.below hb6).below (below_new _ (.cells #[.int .u32 1, .int .u32 2, .int .i64 p, .int .i64 q, .slice B 49 cB] 25))); have HB6 := Lib.hid (hv6.below (below_new _ (.cells #[.int .u32 1, .int .u32 2, .int .i64 p, .int .i64 q, .slice B 49 cB] 25))); have hb7 := bbt (bbt hb5 hb6) (below_new _ (.cells #[.int .u32 1, .int .u32 2, .int .i64 p, .int .i64 q, .slice B 49 cB] 25)); clear x0 x1 x2 x3 x4 hxl; obtain ⟨x0, x1, x2, x3, x4⟩ := HX6.out; have hxl := HX6.out.lt; obtain ⟨y0, y1, y2, y3, y4⟩ := HY6.out; have hyl := HY6.out.lt; clear hb5 hb6 hv6)
    | (go_at_call 15; refine Calls.mono (rows_by HB6.out HA6.out (by omega) (by omega)) ?_; rintro e w8 ⟨⟨b, rfl, hb⟩, hb8⟩; obtain rfl := hb.2 ⟨rfl, fun j _ => rfl⟩; have HX8 := Lib.hid (HX6.out.below hb8); have hb9 := bbt hb7 hb8; clear hb hb7 hb8 x0 x1 x2 x3 x4 hxl y0 y1 y2 y3 y4; obtain ⟨x0, x1, x2, x3, x4⟩ := HX8.out; have hxl := HX8.out.lt)
    | (go_at_call 17; refine Calls.mono (may_i u32_1 u32_2 (by omega)) ?_; rintro e w10 ⟨rfl, hb10⟩; rw [decide_eq_true HM.out]; have hb11 := bbt hb9 hb10; clear hb9 hb10))
  go_ret
  exact ⟨rfl, hb11⟩
theorem last_any (n : Nat) (p q : Int) (w : World) (hn : n < 256) (hq : -9223372036854775808 ≤ q ∧ q ≤ 9223372036854775807) (hp : -9223372036854775808 ≤ p ∧ p ≤ 9223372036854775807) :
    Calls Try.prog 9 #[.int .u8 (n : Nat), .int .i64 p, .int .i64 q] w fun e w' => CellLastPost w w' e := by
  by_cases hm : mayP p q (n % 60)
  · by_cases hpq : p = q - 1
    · subst hpq
      exact last_yes1 n q w hn hq hp hm
    · exact last_yes2 n p q w hn hq hp hm hpq
  · exact last_no n p q w hn hq hp hm
end Go.Proofs.Ytahcgihdgpdiiaa
