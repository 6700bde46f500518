/- The contracts in the words of bytes; the walk of CrcSums. -/
import Derived.Test.YtmedmeabjlmggaaCi
namespace Go.Proofs.Ytmedmeabjlmggaa
open Go.RowKit

theorem bbt {w0 w1 w2 : World} (h : Below w0.heap.size w0 w1) (h2 : Below w1.heap.size w1 w2) : Below w0.heap.size w0 w2 := h.trans (h2.mono h.size)
theorem Byt.drew {w : World} {v : Value} {n : Nat} {f : Nat → Nat} (h : Byt w v n f) : Byt w.drew v n f := h
theorem Byt.cast {w : World} {v : Value} {n m : Nat} {f g : Nat → Nat} (h : Byt w v n f) (hn : n = m) (he : ∀ j, j < n → f j = g j) : Byt w v m g := by
  obtain ⟨A, c, h1, h2, h3, h4⟩ := h
  subst hn
  exact ⟨A, c, h1, h2, h3.congr he, fun j hj => by rw [← he j hj]; exact h4 j hj⟩
theorem Byt.lt {w : World} {v : Value} {n : Nat} {f : Nat → Nat} (h : Byt w v n f) : ∀ j, j < n → f j < 256 := by
  obtain ⟨A, c, h1, h2, h3, h4⟩ := h
  exact h4
section
variable {w : World} {v v1 v2 : Value} {n : Nat} {f g : Nat → Nat}
theorem sum_b (h : Byt w v n f) (hn : n ≤ 1000000) : Calls Try.prog 58 #[v] w fun e w' => e = .returned (.int .u32 (crcN f n : Nat)) ∧ Below w.heap.size w w' := by
  obtain ⟨A, c, rfl, h2, h3, h4⟩ := h
  exact sum_any A n c f w h3 h4 (by omega)
theorem open_b (h : Byt w v n f) (hn : n ≤ 1000000) : Calls Try.prog 50 #[v] w fun e w' => OpenPost w w' e n f := by
  obtain ⟨A, c, rfl, h2, h3, h4⟩ := h
  exact open_any A n c f w h3 h4 hn h2
theorem rows_b (h1 : Byt w v1 n f) (h2 : Byt w v2 n g) (hn : n ≤ 1000000) (he : ∀ j, j < n → f j = g j) :
    Calls Try.prog 14 #[v1, v2] w fun e w' => e = .returned (.bool true) ∧ Below w.heap.size w w' := by
  obtain ⟨A, c, rfl, _, a1, _⟩ := h1
  obtain ⟨B, d, rfl, _, b1, _⟩ := h2
  exact rows_true A n c f B d g w a1 b1 (by omega) he
theorem OpenPost.yes {w' : World} {e : Ending} (h : OpenPost w w' e n f) (ho : OpenB f n = true) : OpenYes w w' e n f := by
  rcases h with ⟨_, h⟩ | ⟨h, _⟩
  · exact h
  · rw [ho] at h; cases h
theorem OpenPost.no {w' : World} {e : Ending} (h : OpenPost w w' e n f) (ho : OpenB f n = false) : OpenNo w w' e := by
  rcases h with ⟨h, _⟩ | ⟨_, h⟩
  · rw [ho] at h; cases h
  · exact h
theorem byt_none : Byt w (.slice none 0 0) 0 f := ⟨none, 0, rfl, Nat.le_refl _, Rd.zero, fun j hj => absurd hj (by omega)⟩
/-- What Open says: bytes, and whether. -/
def OpenTwo (w w' : World) (e : Ending) (n : Nat) (f : Nat → Nat) : Prop := ∃ v, e = .returned (.tuple #[v, .bool (OpenB f n)]) ∧ Byt w' v (if OpenB f n then n - 4 else 0) (fun j => f (4 + j)) ∧ Below w.heap.size w w'
theorem OpenPost.two {w' : World} {e : Ending} (h : OpenPost w w' e n f) : OpenTwo w w' e n f := by
  rcases h with ⟨ho, v, rfl, h1, h2⟩ | ⟨ho, rfl, h2⟩
  · refine ⟨v, by rw [ho], ?_, h2⟩
    rw [ho]
    exact h1
  · refine ⟨_, by rw [ho], ?_, h2⟩
    rw [ho]
    exact byt_none
end
theorem num_seal {s : Nat} {f : Nat → Nat} (hs : s < 4294967296) : num 256 (sealF s f) 4 = s :=
  (four_num (fun j hj => by unfold sealF; rw [if_pos hj]; exact Nat.mod_lt _ (by decide)) hs).2 fun j hj => by unfold sealF; rw [if_pos hj]
theorem seal_behind (s : Nat) (f : Nat → Nat) (j : Nat) : sealF s f (4 + j) = f j := by
  unfold sealF
  rw [if_neg (by omega), Nat.add_sub_cancel_left]
theorem openB_seal {f : Nat → Nat} {n : Nat} (hf : ∀ j, j < n → f j < 256) : OpenB (sealF (crcN f n) f) (4 + n) = true := by
  rw [openB_is (by omega), decide_eq_true_eq, num_seal (crcN_lt hf), Nat.add_sub_cancel_left]
  exact crcN_congr fun j _ => (seal_behind _ _ _).symm

end Go.Proofs.Ytmedmeabjlmggaa
