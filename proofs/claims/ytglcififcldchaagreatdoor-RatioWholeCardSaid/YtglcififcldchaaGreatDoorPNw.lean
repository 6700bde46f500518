/- Writing and reading in the words of numbers: Bytes, Read, Text, Parse, of both sides. -/
import Derived.Test.YtglcififcldchaaGreatDoorPRp
import Derived.Test.YtglcififcldchaaGreatDoorPNatF
import Derived.Test.YtglcififcldchaaGreatDoorPNatE
namespace Go.Proofs.YtglcififcldchaaGreatDoor
open Go.RowKit

section
variable {p n : Nat} {f g : Nat → Nat}
end

/-- What Parse tells of a text. -/
noncomputable def isNumB (s : ByteArray) : Bool := by classical exact decide (IsNum s)
noncomputable def numV (s : ByteArray) : Nat := by classical exact if IsNum s then dval (bt s) s.size else 0
theorem num_yes {s : ByteArray} (h : IsNum s) : isNumB s = true ∧ numV s = dval (bt s) s.size := by
  unfold isNumB numV
  exact ⟨by simpa using h, if_pos h⟩
theorem num_no {s : ByteArray} (h : ¬ IsNum s) : isNumB s = false ∧ numV s = 0 := by
  unfold isNumB numV
  exact ⟨by simpa using h, if_neg h⟩
theorem numV_lt (s : ByteArray) : numV s < 4294967296 ^ s.size := by
  by_cases h : IsNum s
  · rw [(num_yes h).2]
    exact Nat.lt_of_lt_of_le (dval_lt s.size fun i hi => (h.2.2.2 i hi).2) (Nat.pow_le_pow_left (by omega) _)
  · rw [(num_no h).2]
    exact Nat.pow_pos (by omega)
theorem str_parse (s : ByteArray) (w : World) (hm : s.size ≤ 4611686018427387904) : Calls Tryz.prog 137 #[.string s] w fun e w' => ParsePost w w' e (isNumB s) (numV s) := by
  by_cases h : IsNum s
  · rw [(num_yes h).1, (num_yes h).2]; exact parse_yes s w h
  · rw [(num_no h).1, (num_no h).2]; exact parse_no s w hm h
/-- A number's text is read as it. -/
theorem decS_read {N q : Nat} (hN : N < 10 ^ q) (hq : q ≤ 40000) : IsNum (decS N) ∧ dval (bt (decS N)) (decS N).size = N := by
  rcases Nat.eq_zero_or_pos N with rfl | h0
  · rw [decS_zero]
    refine ⟨⟨by decide, by decide, by decide, ?_⟩, by decide⟩
    intro i hi
    have : i = 0 := by have : i < 1 := hi; omega
    subst this
    decide
  · exact decS_num h0 hN hq
end Go.Proofs.YtglcififcldchaaGreatDoor
