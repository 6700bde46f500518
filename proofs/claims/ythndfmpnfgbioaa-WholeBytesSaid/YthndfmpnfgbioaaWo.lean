/- Contracts of both sides' Div of whole numbers, whatever the divisor. -/
import Derived.Test.YthndfmpnfgbioaaWn
namespace Go.Proofs.Ythndfmpnfgbioaa
open Go.RowKit

theorem li_rdiv_no {k l : Nat} {w : World} {v v' : Value} {X : Int} (h : LimI k w v X) (h' : LimI l w v' 0) (hk : k ≤ 100000) (hl : l ≤ 100000) : Calls Try.prog 35 #[v, v'] w fun e w' => DivNoI w w' e := by
  obtain ⟨b, m, N, rfl, ⟨A, n, c, f, rfl, hr⟩, rfl⟩ := h
  obtain ⟨b', m', M, rfl, ⟨B, n', c', f', rfl, hr'⟩, hz⟩ := h'
  exact rdiv_none b b' A n c N k B n' c' M l w ⟨A, n, c, f, rfl, hr⟩ ⟨B, n', c', f', rfl, hr'⟩ hk hl ((sg_zero b' M).1 hz.symm)
theorem rest_is {X Y q r : Int} (h : FDiv X Y q r) : X - q * Y = r := by have := h.1; omega
theorem li_rdiv {k l : Nat} {w : World} {v v' : Value} {X Y : Int} (h : LimI k w v X) (h' : LimI l w v' Y) (hk : k ≤ 100000) (hl : l ≤ 100000) (hY : Y ≠ 0) : Calls Try.prog 35 #[v, v'] w fun e w' => DivYesI w w' e X Y := by
  obtain ⟨b, m, N, rfl, ⟨A, n, c, f, rfl, hr⟩, rfl⟩ := h
  obtain ⟨b', m', M, rfl, ⟨B, n', c', f', rfl, hr'⟩, rfl⟩ := h'
  have hM : 0 < M := Nat.pos_of_ne_zero fun e => hY ((sg_zero b' M).2 e)
  have L1 : Lim k w (.slice A n c) N := ⟨A, n, c, f, rfl, hr⟩
  have L2 : Lim l w (.slice B n' c') M := ⟨B, n', c', f', rfl, hr'⟩
  by_cases h0 : N % M = 0
  · refine rdiv_even b b' A n c N k B n' c' M l w L1 L2 hk hl hM h0 _ _ rfl rfl ?_
    have := fdiv_even b b' hM h0
    have e : ∀ p q : Bool, (p != q) = (!p == q) := by decide
    rwa [e] at this
  · have hr0 : 0 < N % M := by omega
    have hN : 0 < N := by
      rcases Nat.eq_zero_or_pos N with e | e
      · subst e; simp at hr0
      · exact e
    have d1 : decide (sg b N < 0) = b := by rw [sg_neg, decide_eq_true hN, Bool.and_true]
    have d2 : decide (sg b' M < 0) = b' := by rw [sg_neg, decide_eq_true hM, Bool.and_true]
    have F1 := fdiv_same b (N := N) hM
    have F2 := fdiv_diff b hM hr0
    have e1 : sg true (N / M + 1) = sg true (N / M) - 1 := by
      have : ∀ x : Nat, sg true x = -(x : Int) := fun x => rfl
      rw [this, this]
      omega
    rw [e1] at F2
    have G1 := rest_is F1
    have G2 := rest_is F2
    rw [← G1] at F1
    rw [← G2] at F2
    cases b <;> cases b'
    · exact rdiv_ff false false A n c N k B n' c' M l w L1 L2 hk hl hM hr0 d1 d2 F1
    · exact rdiv_ft false true A n c N k B n' c' M l w L1 L2 hk hl hM hr0 d1 d2 F2
    · exact rdiv_tf true false A n c N k B n' c' M l w L1 L2 hk hl hM hr0 d1 d2 F2
    · exact rdiv_tt true true A n c N k B n' c' M l w L1 L2 hk hl hM hr0 d1 d2 F1
/-- What both sides tell of a quotient. -/
def DivAny (w w' : World) (e : Ending) (ok : Bool) (q r : Int) : Prop := ∃ vq vr, e = .returned (.tuple #[vq, vr, .bool ok]) ∧ IsInt w' vq q ∧ IsInt w' vr r ∧ Below w.heap.size w w'
theorem fdiv_is {X Y : Int} (hY : Y ≠ 0) : ∃ q r, FDiv X Y q r ∧ q.natAbs ≤ X.natAbs ∧ r.natAbs ≤ Y.natAbs := by
  rcases Int.lt_or_gt_of_ne hY with h | h
  · have e := Int.mul_ediv_add_emod (-X) (-Y)
    have h1 := Int.emod_nonneg (-X) (show -Y ≠ 0 by omega)
    have h2 := Int.emod_lt_of_pos (-X) (show 0 < -Y by omega)
    have h3 := Int.natAbs_ediv_le_natAbs (-X) (-Y)
    rw [Int.neg_mul, Int.mul_comm] at e
    refine ⟨(-X) / (-Y), -((-X) % (-Y)), ⟨by omega, by omega⟩, by omega, by omega⟩
  · have e := Int.mul_ediv_add_emod X Y
    have h1 := Int.emod_nonneg X hY
    have h2 := Int.emod_lt_of_pos X h
    have h3 := Int.natAbs_ediv_le_natAbs X Y
    rw [Int.mul_comm] at e
    refine ⟨X / Y, X % Y, ⟨by omega, by omega⟩, by omega, by omega⟩
theorem div_both (X Y : Int) : ∃ ok q r, q.natAbs ≤ X.natAbs ∧ r.natAbs ≤ Y.natAbs ∧ (ok = true → FDiv X Y q r) ∧
    (∀ (k l : Nat) (w : World) (v v' : Value), LimI k w v X → LimI l w v' Y → k ≤ 100000 → l ≤ 100000 → Calls Try.prog 34 #[v, v'] w fun e w' => DivAny w w' e ok q r) ∧
    (∀ (k l : Nat) (w : World) (v v' : Value), LimI k w v X → LimI l w v' Y → k ≤ 100000 → l ≤ 100000 → Calls Try.prog 35 #[v, v'] w fun e w' => DivAny w w' e ok q r) := by
  by_cases hY : Y = 0
  · subst hY
    refine ⟨false, 0, 0, by omega, by omega, (fun h => by cases h), fun k l w v v' h h' hk hl => ?_, fun k l w v v' h h' hk hl => ?_⟩
    · exact (li_div_no h h' (by omega) (by omega)).mono fun e w' ⟨vq, vr, h1, h2, h3, h4⟩ => ⟨vq, vr, h1, h2, h3, h4⟩
    · exact (li_rdiv_no h h' hk hl).mono fun e w' ⟨vq, vr, h1, h2, h3, h4⟩ => ⟨vq, vr, h1, h2, h3, h4⟩
  · obtain ⟨q, r, hF, h1, h2⟩ := fdiv_is (X := X) hY
    refine ⟨true, q, r, h1, h2, fun _ => hF, fun k l w v v' h h' hk hl => ?_, fun k l w v v' h h' hk hl => ?_⟩
    · refine (li_div h h' (by omega) (by omega) hY).mono fun e w' ⟨vq, vr, q', r', he, hF', hq, hr, hb⟩ => ?_
      obtain ⟨rfl, rfl⟩ := hF.uniq hF'
      exact ⟨vq, vr, he, hq, hr, hb⟩
    · refine (li_rdiv h h' hk hl hY).mono fun e w' ⟨vq, vr, q', r', he, hF', hq, hr, hb⟩ => ?_
      obtain ⟨rfl, rfl⟩ := hF.uniq hF'
      exact ⟨vq, vr, he, hq, hr, hb⟩
end Go.Proofs.Ythndfmpnfgbioaa
