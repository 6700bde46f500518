/- Contracts of whole: Plain. -/
import Derived.Test.YthndfmpnfgbioaaWa
import Derived.Deep.RegionHeld3
import Derived.Deep.DrawnRows
namespace Go.Proofs.Ythndfmpnfgbioaa
open Go.RowKit
attribute [local go_sem ↓] Go.wp_at_zero Go.wp_at_succ

set_option maxHeartbeats 2000000 in
theorem plain_any (b : Bool) (A : Option Addr) (n c N k : Nat) (w : World) (h : Lim k w (.slice A n c) N) (hk : k ≤ 1000000) :
    Calls Try.prog 37 #[.agg #[.bool b, .slice A n c]] w fun e w' => IntPost w w' e (sg b N) := by
  have hsz : w.heap.size < w.heap.size + 1 + 1 := by omega
  go_enter Try.func37, Try.ntmps37
  go_wp2
  go_region_held3 (fun w' => w'.cell? ⟨w.heap.size, 0, none⟩ = some (.bool b) ∧ w'.cell? ⟨w.heap.size, 1, none⟩ = some (.slice A n c)) (go_keep)
    (first
      | (go_at_call 61; refine Calls.mono (lim_trim (k := k) (N := N) (by repeat (first | assumption | with_reducible refine Lim.drew_ ?_ | with_reducible refine Lim.alloc_ ?_ _)) hk) ?_; rintro e w1 ⟨v1, rfl, h1, hb1⟩; obtain ⟨A1, n1, c1, rfl, hn1, h1⟩ := isNat_form h1; obtain ⟨hc1, hf1⟩ := bcell hb1; have hz1 : w.heap.size + 1 < w1.heap.size := (by have := hb1.size; simp at this; omega); have hy1 : w.heap.size < w1.heap.size := (by omega))
      | (go_at_call 84; refine Calls.mono (signed_any _ _ _ _ _ _ h1 hn1) ?_; rintro e w2 ⟨v2, rfl, h2, hb2⟩; obtain ⟨m2, rfl, h2⟩ := h2; obtain ⟨A2, n2, c2, rfl, hn2, h2⟩ := isNat_form h2; obtain ⟨hc2, hf2⟩ := bcell hb2; have hz2 : w.heap.size + 1 < w2.heap.size := (by have := hb2.size; omega); have hy2 : w.heap.size < w2.heap.size := (by omega); have hr2 := second_cell (w := w2) (g := w.heap.size + 1) (x := .slice none 0 0) (by simp [hc2, hc1, hz1])))
  have HI := Lib.hid (h2.stored (g := w.heap.size + 1) (b0 := false) (A0 := none) (n0 := 0) (c0 := 0) (by simp [hc2, hc1, hz1]) (by simp [hc2, hc1, hz1]) (.bool (decide (sg b N < 0))) (.slice A2 n2 c2))
  have HB : Hid (Below w.heap.size w ((w2.setCell ⟨w.heap.size + 1, 0, none⟩ (.bool (decide (sg b N < 0)))).setCell ⟨w.heap.size + 1, 1, none⟩ (.slice A2 n2 c2))) := by
    have b1 : Below w.heap.size w ((w.alloc (.cells #[.bool b, .slice A n c] 41)).alloc (.cells #[.bool false, .slice none 0 0] 41)) := ((Below.refl _ _).alloc (Nat.le_refl _) _).alloc (by simp) _
    exact (((b1.drew).trans (hb1.mono (by simp; omega))).trans (hb2.mono (by omega))).setCell (by simp) _ |>.setCell (by simp) _
  have hr1 := first_cell (w := w2) (g := w.heap.size + 1) (x := .bool false) (by simp [hc2, hc1, hz1])
  go_wp2
  exact bodyPost_ret (v := .agg #[.bool (decide (sg b N < 0)), .slice A2 n2 c2]) (by simp [results, Try.results37, go_sem, hr1, hr2]) rfl ⟨_, rfl, ⟨_, rfl, HI.out⟩, HB.out⟩
end Go.Proofs.Ythndfmpnfgbioaa
