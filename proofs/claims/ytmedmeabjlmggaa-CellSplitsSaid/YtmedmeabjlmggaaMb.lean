/- CellSplits: what both sides tell, in one form; the document's Join. -/
import Derived.Test.YtmedmeabjlmggaaMa
import Derived.Deep.RegionHeld3
namespace Go.Proofs.Ytmedmeabjlmggaa
open Go.RowKit
set_option linter.unusedSimpArgs false
set_option linter.unusedVariables false

/-- A record's cells, or none. -/
def SplitOne (w w' : World) (e : Ending) (g s n : Nat) (f : Nat → Nat) : Prop :=
  (∃ A c X, e = .returned (.tuple #[.slice A (needF n) c, .int .i64 (if needF n = 0 then 1 else 0)]) ∧ needF n ≤ c ∧ CellsAt w' A (needF n) X ∧ ∀ i, i < needF n → PartOf g s n f i (X i)) ∧ Below w.heap.size w w'
theorem SplitPost.one {w w' : World} {e : Ending} {g s n : Nat} {f : Nat → Nat} (h : SplitPost w w' e g s n f) : SplitOne w w' e g s n f := by
  obtain ⟨h, hb⟩ := h
  refine ⟨?_, hb⟩
  rcases h with ⟨h0, rfl⟩ | ⟨h0, ad, c, X, rfl, h1, h2, h3⟩
  · rw [h0]
    exact ⟨none, 0, fun _ => ⟨0, 0, 0, 0, none, 0, 0, fun _ => 0⟩, rfl, Nat.le_refl _, fun i hi => absurd hi (by omega), fun i hi => absurd hi (by omega)⟩
  · rw [if_neg h0]
    exact ⟨some ad, c, X, rfl, h1, h2, h3⟩
open Classical in
noncomputable def joinC (n : Nat) (X : Nat → CellD) : Int := if joinP n X then 0 else 2
open Classical in
noncomputable def joinL (n : Nat) (X : Nat → CellD) : Nat := if joinP n X then joinN n X n else 0
def JoinOne (w w' : World) (e : Ending) (n : Nat) (X : Nat → CellD) : Prop :=
  (∃ v, e = .returned (.tuple #[v, .int .i64 (joinC n X)]) ∧ Byt w' v (joinL n X) (joinF X)) ∧ Below w.heap.size w w'
theorem byt_none0 {w : World} {f : Nat → Nat} : Byt w (.slice none 0 0) 0 f := ⟨none, 0, rfl, Nat.le_refl _, Rd.zero, fun j hj => absurd hj (by omega)⟩
theorem JoinPost.one {w w' : World} {e : Ending} {n : Nat} {X : Nat → CellD} (h : JoinPost w w' e n X) : JoinOne w w' e n X := by
  obtain ⟨h, hb⟩ := h
  refine ⟨?_, hb⟩
  rcases h with ⟨h0, v, rfl, hv⟩ | ⟨h0, rfl⟩
  · refine ⟨v, by rw [joinC, if_pos h0], ?_⟩
    rw [joinL, if_pos h0]
    exact hv
  · refine ⟨_, by rw [joinC, if_neg h0], ?_⟩
    rw [joinL, if_neg h0]
    exact byt_none0
/-- The bytes of the first k cells. -/
def accF (X : Nat → CellD) : Nat → Nat → Nat
  | 0 => fun _ => 0
  | k + 1 => appF (accF X k) (accN X k) (X k).f
theorem acc_join {n : Nat} {X : Nat → CellD} (h : joinP n X) : ∀ k, k ≤ n → accN X k = joinN n X k ∧ ∀ j, j < accN X k → accF X k j = joinF X j
  | 0, _ => ⟨by show 0 = joinN n X 0; unfold joinN; rw [if_pos h.1], fun j hj => absurd hj (by show ¬ j < 0; omega)⟩
  | k + 1, hk => by
    obtain ⟨h1, h2⟩ := acc_join h k (by omega)
    have hb := h.2 k (by omega)
    refine ⟨?_, fun j hj => ?_⟩
    · show accN X k + (X k).n = _
      rw [h1]; exact join_step hb (by omega)
    · show appF (accF X k) (accN X k) (X k).f j = _
      rw [← join_app hb (by omega) j (by rw [← h1]; exact hj), h1]
      unfold appF
      split
      · rename_i hlt; exact h2 j (by rw [h1]; exact hlt)
      · rfl
theorem acc_lt {X : Nat → CellD} : ∀ k, (∀ i, i < k → (X i).good) → ∀ j, j < accN X k → accF X k j < 256
  | 0, _ => fun j hj => absurd hj (by show ¬ j < 0; omega)
  | k + 1, h => fun j hj => by
    have hj : j < accN X k + (X k).n := hj
    show appF (accF X k) (accN X k) (X k).f j < 256
    unfold appF
    split
    · rename_i hl; exact acc_lt k (fun i hi => h i (by omega)) j hl
    · exact (h k (by omega)).2.2.2.2.2.2.2.2.1 _ (by omega)
/-- A record's cells join. -/
theorem parts_alike {g s n M : Nat} {f : Nat → Nat} {X Y : Nat → CellD} (hn : n = needF M) (h0 : 0 < n) (hP : ∀ i, i < needF M → PartOf g s M f i (Y i)) (hs : ∀ i, i < n → sameC (Y i) (X i)) : joinP n X := by
  refine ⟨h0, fun i hi => ?_⟩
  have hp := hP i (by omega)
  have hm := part_may hp (by omega)
  have hi' := hs i hi
  have hp0 := hP 0 (by omega)
  have h0' := hs 0 h0
  obtain ⟨a1, a2, a3, a4, a5, _⟩ := hi'
  obtain ⟨b1, b2, b3, b4, b5, _⟩ := h0'
  refine ⟨by rw [← a3, ← a4, ← a5]; exact hm, by rw [← a3]; exact hp.2.2.1, by rw [← a4, hn]; exact hp.2.2.2.1, ?_, ?_⟩
  · rw [← a1, ← b1, hp.1, hp0.1]
  · rw [← a2, ← b2, hp.2.1, hp0.2.1]
theorem join_parts {g s n M : Nat} {f : Nat → Nat} {X Y : Nat → CellD} (h : joinP n X) (hg : (X 0).g = g) (hs : (X 0).s = s) (hM : M = joinN n X n) (hf : ∀ j, j < M → f j = joinF X j) :
    n = needF M ∧ ((∀ i, i < needF M → PartOf g s M f i (Y i)) → ∀ i, i < n → sameC (Y i) (X i)) := by
  have h1 := join_few (h.2 (n - 1) (by have := h.1; omega))
  have h00 := h.1
  have hM2 : M = 49 * (n - 1) + (X (n - 1)).n := by rw [hM, joinN, if_neg (by omega)]
  have hn : n = needF M := by
    unfold needF
    rw [if_neg (by omega)]
    omega
  refine ⟨hn, fun hP i hi => ?_⟩
  obtain ⟨p1, p2, p3, p4, p5, p6⟩ := hP i (by omega)
  obtain ⟨q1, q2, q3, q4, q5⟩ := h.2 i hi
  have hfw := join_few (h.2 i hi)
  have hlen : (Y i).n = (X i).n := by
    rw [p5]
    by_cases hl : i + 1 < n
    · rw [hfw.2.2.2 hl]; omega
    · obtain rfl : i = n - 1 := by omega
      omega
  refine ⟨by rw [p1, q4, hg], by rw [p2, q5, hs], by rw [p3, q2], by rw [p4, q3, hn], hlen, fun j hj => ?_⟩
  rw [p6 j hj, hf (49 * i + j) (by omega)]
  unfold joinF
  rw [show (49 * i + j) / 49 = i from by omega, show (49 * i + j) % 49 = j from by omega]
end Go.Proofs.Ytmedmeabjlmggaa
