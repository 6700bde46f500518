/- Numbers written one behind the other. Nothing of the program is in here. -/
import Derived.Test.YthndfmpnfgbioaaWs
namespace Go.Proofs.Ythndfmpnfgbioaa
open Go.RowKit

/-- F's first n bytes are those of X. -/
def IsEnc (X : Int) (n : Nat) (F : Nat → Nat) : Prop :=
  ∃ p f, n = 3 + 4 * p ∧ F 0 = (if X < 0 then 1 else 0) ∧ (∀ j, j < 2 + 4 * p → F (1 + j) = byteOf p f j) ∧ Trimmed f p ∧ (∀ j, j < p → f j < 4294967296) ∧ num 4294967296 f p = X.natAbs ∧ p ≤ 4096
theorem IsIB.enc {w : World} {v : Value} {X : Int} {p : Nat} (h : IsIB w v X p) : p ≤ 4096 ∧ ∃ G, Byt w v (3 + 4 * p) G ∧ IsEnc X (3 + 4 * p) G := by
  obtain ⟨f, G, h1, h2, h3, h4, h5, h6, h7⟩ := h
  exact ⟨h7, G, h1, p, f, rfl, h2, h3, h4, h5, h6, h7⟩
theorem IsEnc.congr {X : Int} {n : Nat} {F F' : Nat → Nat} (h : IsEnc X n F) (he : ∀ j, j < n → F' j = F j) : IsEnc X n F' := by
  obtain ⟨p, f, rfl, h2, h3, h4⟩ := h
  exact ⟨p, f, rfl, by rw [he 0 (by omega), h2], fun j hj => by rw [he (1 + j) (by omega), h3 j hj], h4⟩
theorem IsEnc.read {X : Int} {m n : Nat} {F g : Nat → Nat} (h : IsEnc X m F) (hn : m ≤ n) (hg : ∀ j, j < m → g j = F j) :
    intRB g n = true ∧ intRV g n = X ∧ intRM g n = n - m ∧ ∀ j, readG (tl g) j = g (m + j) := by
  obtain ⟨p, f, rfl, a2, a3, a4, a5, a6, a7⟩ := h
  have h0 : g 0 = if X < 0 then 1 else 0 := by rw [hg 0 (by omega), a2]
  obtain ⟨r1, r2, r3⟩ := readable_of (g := tl g) (n := n - 1) a7 a4 a5 (by omega) (fun j hj => by unfold tl; rw [hg (1 + j) (by omega), a3 j hj])
  have hy := read_yes r1
  rw [r2, r3, a6] at hy
  have hx : g 0 = 1 ↔ X < 0 := by rw [h0]; split <;> omega
  have hi := intR_yes (f := g) (n := n) ⟨by omega, by rw [h0]; split <;> omega, hy.1, fun h => by rw [hy.2.1]; have := hx.1 h; omega⟩
  refine ⟨hi.1, ?_, by rw [hi.2.2, hy.2.2]; omega, fun j => ?_⟩
  · rw [hi.2.1, hy.2.1, show decide (g 0 = 1) = decide (X < 0) from decide_eq_decide.2 hx]
    exact sg_of X
  · unfold readG tl
    rw [show cntOf (fun j => g (1 + j)) = p from r2]
    congr 1
    omega
/-- F's first N bytes are those of the numbers from i on, up to k. -/
inductive Cat (Xs : Nat → Int) (k : Nat) : Nat → Nat → (Nat → Nat) → Prop
  | done (F : Nat → Nat) : Cat Xs k k 0 F
  | step {i m N : Nat} {F : Nat → Nat} (hi : i < k) (h : IsEnc (Xs i) m F) (ht : Cat Xs k (i + 1) N (fun j => F (m + j))) : Cat Xs k i (m + N) F
theorem Cat.le {Xs : Nat → Int} {k i N : Nat} {F : Nat → Nat} (h : Cat Xs k i N F) : i ≤ k := by
  cases h with
  | done => exact Nat.le_refl _
  | step hi _ _ => omega
theorem Cat.first {Xs : Nat → Int} {k i n : Nat} {F : Nat → Nat} (h : Cat Xs k i n F) (hi : i < k) : ∃ m N, n = m + N ∧ IsEnc (Xs i) m F ∧ Cat Xs k (i + 1) N (fun j => F (m + j)) := by
  cases h with
  | done => omega
  | step _ h1 h2 => exact ⟨_, _, rfl, h1, h2⟩
theorem Cat.last {Xs : Nat → Int} {k i n : Nat} {F : Nat → Nat} (h : Cat Xs k i n F) (hi : ¬ i < k) : n = 0 := by
  cases h with
  | done => rfl
  | step h0 _ _ => exact absurd h0 hi
theorem Cat.more {Xs : Nat → Int} {k i N m : Nat} {F G : Nat → Nat} (h : Cat Xs k i N F) (hG : IsEnc (Xs k) m G) : Cat Xs (k + 1) i (N + m) (appF F N G) := by
  induction h with
  | done F =>
    have h1 : IsEnc (Xs k) m (appF F 0 G) := hG.congr fun j _ => by simp [appF]
    have := Cat.step (k := k + 1) (Nat.lt_succ_self k) h1 (Cat.done _)
    rwa [Nat.add_zero, ← Nat.zero_add m] at this
  | @step i m' N' F hi h1 _ ih =>
    have e : (fun j => appF F (m' + N') G (m' + j)) = appF (fun j => F (m' + j)) N' G := funext fun j => by
      unfold appF
      by_cases hj : j < N'
      · rw [if_pos (by omega), if_pos hj]
      · rw [if_neg (by omega), if_neg hj]
        congr 1
        omega
    rw [Nat.add_assoc]
    refine Cat.step (by omega) (h1.congr fun j hj => ?_) ?_
    · unfold appF; rw [if_pos (by omega)]
    · rw [e]; exact ih
end Go.Proofs.Ythndfmpnfgbioaa
