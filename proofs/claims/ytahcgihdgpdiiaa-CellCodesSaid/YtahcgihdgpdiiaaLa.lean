/- Contract: the document's Encode. -/
import Derived.Test.YtahcgihdgpdiiaaKz
namespace Go.Proofs.Ytahcgihdgpdiiaa
open Go.RowKit
set_option linter.unusedSimpArgs false
set_option linter.unusedVariables false

set_option maxHeartbeats 2000000 in
theorem rencode_no (g s : Nat) (p q : Int) (A : Option Addr) (n c : Nat) (w : World) (hn : n ≤ 9223372036854775807) (hm : ¬ mayP p q n) :
    Calls Try.prog 12 #[cellV g s p q A n c] w fun e w' => e = .returned (.tuple #[.slice none 0 0, .int .i64 1]) ∧ Below w.heap.size w w' := by
  have HB := Lib.hid (below_new w (.cells #[.int .u32 (g : Nat), .int .u32 (s : Nat), .int .i64 p, .int .i64 q, .slice A n c] 25))
  have HD := Lib.hid (decide_eq_false hm)
  obtain ⟨x0, x1, x2, x3, x4⟩ := BoxC.new w g s p q A n c
  clear hm
  go_enter Try.func12, Try.ntmps12
  go_wp2_with (go_at_call 18; refine (rmay_any g s p q A n c _ hn).mono ?_; rintro e w1 ⟨rfl, hb1⟩; rw [HD.out])
  go_ret2
  exact ⟨rfl, bbt HB.out hb1⟩
set_option maxHeartbeats 2000000 in
theorem rencode_yes (g s p q : Nat) (A : Option Addr) (n c : Nat) (f : Nat → Nat) (w : World) (hg : g < 4294967296) (hs : s < 4294967296) (hr : Rd .u8 w A n f) (hf : ∀ j, j < n → f j < 256) (hm : mayP p q n) :
    Calls Try.prog 12 #[cellV g s p q A n c] w fun e w' => (∃ v, e = .returned (.tuple #[v, .int .i64 0]) ∧ Byt w' v 64 (sectF g s p q n f)) ∧ Below w.heap.size w w' := by
  have hm2 := hm
  unfold mayP at hm2
  obtain ⟨m1, m2, m3, m4, m5, m6, _⟩ := hm2
  obtain ⟨ad, rfl, _⟩ := hr.some_ (by omega)
  have hpq : p < 256 ∧ q < 256 := by omega
  have HB := Lib.hid (below_new w (.cells #[.int .u32 (g : Nat), .int .u32 (s : Nat), .int .i64 (p : Nat), .int .i64 (q : Nat), .slice (some ad) n c] 25))
  have HX := Lib.hid (BoxC.new w g s (p : Nat) (q : Nat) (some ad) n c)
  have HD := Lib.hid (decide_eq_true hm)
  have HR := Lib.hid hr
  have HF := Lib.hid hf
  obtain ⟨x0, x1, x2, x3, x4⟩ := HX.out
  clear hm hr hf
  go_enter Try.func12, Try.ntmps12
  go_wp2_with (first
    | (go_at_call 18; refine (rmay_any g s p q (some ad) n c _ (by omega)).mono ?_; rintro e w1 ⟨rfl, hb1⟩; rw [HD.out]; have HX1 := Lib.hid (HX.out.below hb1); have HB1 := Lib.hid (bbt HB.out hb1); clear hb1 x0 x1 x2 x3 x4; obtain ⟨x0, x1, x2, x3, x4⟩ := HX1.out; have hxl := HX1.out.lt)
    | (go_at_call 28; refine Calls.mono (write_any g s p q ad n c f _ hg hs hpq.1 hpq.2 (by omega) (HR.out.below HB1.out) HF.out) ?_; rintro e w2 ⟨⟨v2, rfl, hv2⟩, hb2⟩))
  go_ret2
  exact ⟨⟨v2, rfl, hv2⟩, bbt HB1.out hb2⟩
end Go.Proofs.Ytahcgihdgpdiiaa
