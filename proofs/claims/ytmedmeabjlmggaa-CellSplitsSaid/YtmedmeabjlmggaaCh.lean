/- Contract: Open. -/
import Derived.Test.YtmedmeabjlmggaaCg
namespace Go.Proofs.Ytmedmeabjlmggaa
open Go.RowKit

theorem openB_is {f : Nat → Nat} {n : Nat} (h : 4 ≤ n) : OpenB f n = decide (num 256 f 4 = crcN (fun j => f (4 + j)) (n - 4)) := by
  unfold OpenB
  by_cases hq : num 256 f 4 = crcN (fun j => f (4 + j)) (n - 4) <;> simp [hq, h]

set_option maxRecDepth 100000 in
set_option maxHeartbeats 2000000 in
theorem open_few (A : Option Addr) (n c : Nat) (f : Nat → Nat) (w : World) (h4 : n < 4) :
    Calls Try.prog 50 #[.slice A n c] w fun e w' => OpenPost w w' e n f := by
  have HN := Lib.hid (openB_few (f := f) h4)
  have hd : decide ((n : Int) < 4) = true := by rw [decide_eq_true_eq]; omega
  go_enter Try.func50, Try.ntmps50
  go_wp2
  go_quiet (fail)
  go_wp2
  go_ret2
  exact .inr ⟨HN.out, rfl, Below.drewN_ (Below.refl _ _) _⟩

set_option maxRecDepth 100000 in
set_option maxHeartbeats 2000000 in
theorem open_any (A : Option Addr) (n c : Nat) (f : Nat → Nat) (w : World) (hr : Rd .u8 w A n f) (hf : ∀ j, j < n → f j < 256) (hn : n ≤ 1000000) (hc : n ≤ c) :
    Calls Try.prog 50 #[.slice A n c] w fun e w' => OpenPost w w' e n f := by
  by_cases h4 : n < 4
  · exact open_few A n c f w h4
  · have HR := Lib.hid hr
    have HF := Lib.hid hf
    clear hr hf
    obtain ⟨ad, rfl, _⟩ := HR.out.some_ (by omega)
    obtain ⟨B, hsl, hB⟩ := rest_at ad n c 4 f w HR.out hc (by omega)
    have HB := Lib.hid hB
    have hF4 : ∀ j, j < n - 4 → f (4 + j) < 256 := fun j hj => HF.out _ (by omega)
    have HF4 := Lib.hid hF4
    have HBY := Lib.hid (show Byt w (.slice (some B) (n - 4) (c - 4)) (n - 4) (fun j => f (4 + j)) from ⟨_, _, rfl, by omega, hB, hF4⟩)
    clear hB hF4
    have hsl4 := fun wq => hsl wq 4 rfl
    have HSL := Lib.hid hsl4
    clear hsl
    have hd : decide ((n : Int) < 4) = false := by rw [decide_eq_false_iff_not]; omega
    have hd2 : ¬ (n : Int) < 4 := by omega
    have HO := Lib.hid (openB_is (f := f) (n := n) (by omega))
    have hah := fun w0 (h : Rd .u8 w0 (some ad) n f) => ahead_any (some ad) n c f w0 h HF.out (by omega)
    have hsm := fun w0 (h : Rd .u8 w0 (some B) (n - 4) (fun j => f (4 + j))) => sum_any (some B) (n - 4) (c - 4) _ w0 h HF4.out (by omega)
    generalize num 256 f 4 = X at *
    generalize crcN (fun j => f (4 + j)) (n - 4) = S at *
    have HAH := Lib.hid hah
    have HSM := Lib.hid hsm
    clear hah hsm
    by_cases hq : X = S
    · have hne : ((X : Int) != (S : Int)) = false := by rw [bne_eq_false_iff_eq]; omega
      rw [decide_eq_true hq] at HO
      have HQ := Lib.hid hq
      clear hq
      have HCL := Lib.hid (fun w0 (h : Rd .u8 w0 (some B) (n - 4) (fun j => f (4 + j))) => clone_any B (n - 4) (c - 4) _ w0 h HF4.out (by omega))
      go_enter Try.func50, Try.ntmps50
      go_wp2
      go_region_with (first
        | (go_at_call 59; refine (HAH.out _ (by first | exact HR.out.drew | exact HR.out.drew.below hb1)).mono ?_; rintro e w' ⟨rfl, rfl⟩)
        | (go_at_call 58; refine (HSM.out _ (by exact HB.out.drew)).mono ?_; rintro e w2 ⟨rfl, hb1⟩))
      have HB1 := Lib.hid (show Below w.heap.size w w2 from ⟨hb1.os, hb1.tape, hb1.output, hb1.size, hb1.block⟩)
      clear hb1
      have hs := HSL.out w2
      go_wp2_with (go_at_call 32; refine (HCL.out _ (HB.out.below HB1.out)).mono ?_; rintro e w3 ⟨v, rfl, hv, hb3⟩)
      have HB3 := Lib.hid (HB1.out.trans (hb3.mono HB1.out.size))
      have HV := Lib.hid hv
      clear hs hb3 hv
      go_wp2
      go_ret2
      exact .inl ⟨HO.out, v, rfl, HV.out, HB3.out⟩
    · have hne : ((X : Int) != (S : Int)) = true := by rw [bne_iff_ne]; omega
      rw [decide_eq_false hq] at HO
      clear hq
      go_enter Try.func50, Try.ntmps50
      go_wp2
      go_region_with (first
        | (go_at_call 59; refine (HAH.out _ (by first | exact HR.out.drew | exact HR.out.drew.below hb1)).mono ?_; rintro e w' ⟨rfl, rfl⟩)
        | (go_at_call 58; refine (HSM.out _ (by exact HB.out.drew)).mono ?_; rintro e w2 ⟨rfl, hb1⟩))
      have HB1 := Lib.hid (show Below w.heap.size w w2 from ⟨hb1.os, hb1.tape, hb1.output, hb1.size, hb1.block⟩)
      clear hb1
      go_wp2
      go_ret2
      exact .inr ⟨HO.out, rfl, HB1.out⟩

end Go.Proofs.Ytmedmeabjlmggaa
