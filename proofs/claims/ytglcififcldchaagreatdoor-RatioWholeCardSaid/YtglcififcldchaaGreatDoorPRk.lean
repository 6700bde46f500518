/- Contracts of the document's own fractions. -/
import Derived.Test.YtglcififcldchaaGreatDoorPRj
namespace Go.Proofs.YtglcififcldchaaGreatDoor
open Go.RowKit
attribute [local go_sem ↓] Go.wp_at_zero Go.wp_at_succ
set_option linter.unusedVariables false

set_option maxRecDepth 100000 in
set_option maxHeartbeats 1000000 in
theorem rzero_any (w : World) :
    Calls Tryz.prog 38 #[] w fun e w' => RatPost w w' e 0 := by
  go_enter Tryz.func38, Tryz.ntmps38
  go_wp2_with fail
  refine Calls.mono (rof_any 1 _ (by omega) (by omega)) ?_
  rintro e w1 ⟨v, rfl, h, hb⟩
  obtain ⟨b1, A1, n1, c1, rfl, -, -, h⟩ := h.form
  have hB := bun (hb)
  have Kr_1 := Lib.hid (show Blk w1 (w.heap.size) 26 #[.bool false, .slice none 0 0, .bool false, .slice none 0 0] from (Blk.new _ _ (by simp) _ _).below hb)
  have o_1 := Lib.hid (h)
  have HB_1 := Lib.hid (hB)
  have hs_1 : w.heap.size ≤ w1.heap.size := HB_1.out.size
  have hz_1 : w.heap.size + 1 ≤ w1.heap.size := (by have h := hb.size; (try simp at h); omega)
  clear hB hb 
  obtain ⟨p10, p11, p12, p13, l1⟩ := Kr_1.out.use4
  obtain ⟨r10, r11, r12, r13⟩ := Kr_1.out.into4
  go_wp2
  obtain ⟨WF, hWF⟩ : ∃ W, W = ((((w1.setCell ⟨w.heap.size, 0, none⟩ (.bool false)).setCell ⟨w.heap.size, 1, none⟩ (.slice none 0 0)).setCell ⟨w.heap.size, 2, none⟩ (.bool b1)).setCell ⟨w.heap.size, 3, none⟩ (.slice A1 n1 c1)) := ⟨_, rfl⟩
  rw [← hWF]
  have kq : Blk WF (w.heap.size) 26 #[.bool false, .slice none 0 0, .bool b1, .slice A1 n1 c1] := by rw [hWF]; exact Kr_1.out.own4
  have hBF : Below w.heap.size w WF := by rw [hWF]; exact Below.set4 (HB_1.out) (by first | omega | (simp; omega) | simp)
  have fo : IsInt WF (.agg #[.bool b1, .slice A1 n1 c1]) 1 := by rw [hWF]; exact o_1.out.other4 Kr_1.out nu nu nu nu
  have HE : Hid (RatPost w WF (Ending.returned (.agg #[.bool false, .slice none 0 0, .bool b1, .slice A1 n1 c1])) 0) := ⟨_, rfl, ⟨false, _, b1, _, rfl, ⟨_, rfl, isNat_nil _⟩, fo⟩, hBF⟩
  obtain ⟨e0, e1, e2, e3⟩ := kq.cells4
  clear hWF
  exact bodyPost_ret (v := .agg #[.bool false, .slice none 0 0, .bool b1, .slice A1 n1 c1]) (by simp [results, Tryz.results38, go_sem, e0, e1, e2, e3] <;> omega) rfl HE.out

end Go.Proofs.YtglcififcldchaaGreatDoor
