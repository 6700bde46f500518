/- Fractions as values: LimR (numbers of few limbs), LimQ (the number that it counts as), LimP (one that may be), IsRat (plain). -/
import Derived.Test.YtebdmidghidaeaaGreatPWp
import Derived.Test.YtebdmidghidaeaaGreatPLv
namespace Go.Proofs.YtebdmidghidaeaaGreat
open Go.RowKit

/-- A fraction's two numbers, each of at most k limbs. -/
def LimR (k : Nat) (w : World) (v : Value) (X Y : Int) : Prop := ∃ b m b' m', v = .agg #[.bool b, m, .bool b', m'] ∧ LimI k w (.agg #[.bool b, m]) X ∧ LimI k w (.agg #[.bool b', m']) Y
def ratOf (X Y : Int) : Rat := if 0 < Y then Rat.divInt X Y else 0
def LimQ (k : Nat) (w : World) (v : Value) (q : Rat) : Prop := ∃ X Y, LimR k w v X Y ∧ q = ratOf X Y
def LimP (k : Nat) (w : World) (v : Value) (q : Rat) : Prop := ∃ X Y, LimR k w v X Y ∧ 0 < Y ∧ q = Rat.divInt X Y
def IsRat (w : World) (v : Value) (q : Rat) : Prop := ∃ b m b' m', v = .agg #[.bool b, m, .bool b', m'] ∧ IsInt w (.agg #[.bool b, m]) q.num ∧ IsInt w (.agg #[.bool b', m']) (q.den : Int)
/-- Its numbers have at most k limbs. -/
def BQ (k : Nat) (q : Rat) : Prop := q.num.natAbs < 4294967296 ^ k ∧ q.den < 4294967296 ^ k
def RatPost (w w' : World) (e : Ending) (q : Rat) : Prop := ∃ v, e = .returned v ∧ IsRat w' v q ∧ Below w.heap.size w w'

section
variable {k l : Nat} {w w' : World} {v : Value} {X Y : Int} {q p : Rat}
theorem LimR.below (h : LimR k w v X Y) (hb : Below w.heap.size w w') : LimR k w' v X Y := by
  obtain ⟨b, m, b', m', h0, h1, h2⟩ := h
  exact ⟨b, m, b', m', h0, h1.below hb, h2.below hb⟩
theorem LimQ.below (h : LimQ k w v q) (hb : Below w.heap.size w w') : LimQ k w' v q := by
  obtain ⟨X, Y, h0, h1⟩ := h
  exact ⟨X, Y, h0.below hb, h1⟩
theorem LimP.below (h : LimP k w v q) (hb : Below w.heap.size w w') : LimP k w' v q := by
  obtain ⟨X, Y, h0, h1⟩ := h
  exact ⟨X, Y, h0.below hb, h1⟩
theorem IsRat.below (h : IsRat w v q) (hb : Below w.heap.size w w') : IsRat w' v q := by
  obtain ⟨b, m, b', m', h0, h1, h2⟩ := h
  exact ⟨b, m, b', m', h0, h1.below hb, h2.below hb⟩
theorem LimQ.alloc_ (h : LimQ k w v q) (o : Obj) : LimQ k (w.alloc o) v q := h.below (below_new w o)
theorem IsRat.alloc_ (h : IsRat w v q) (o : Obj) : IsRat (w.alloc o) v q := h.below (below_new w o)
theorem LimQ.drew_ (h : LimQ k w v q) : LimQ k w.drew v q := h
theorem IsRat.drew_ (h : IsRat w v q) : IsRat w.drew v q := h
theorem LimI.form (h : LimI k w v X) : ∃ b A n c, v = .agg #[.bool b, .slice A n c] ∧ LimI k w (.agg #[.bool b, .slice A n c]) X := by
  obtain ⟨b, m, N, rfl, ⟨A, n, c, f, rfl, hr⟩, rfl⟩ := h
  exact ⟨b, A, n, c, rfl, b, _, N, rfl, ⟨A, n, c, f, rfl, hr⟩, rfl⟩
theorem LimR.form (h : LimR k w v X Y) : ∃ b A n c b' A' n' c', v = .agg #[.bool b, .slice A n c, .bool b', .slice A' n' c'] ∧ LimI k w (.agg #[.bool b, .slice A n c]) X ∧ LimI k w (.agg #[.bool b', .slice A' n' c']) Y := by
  obtain ⟨b, m, b', m', rfl, h1, h2⟩ := h
  obtain ⟨b1, A, n, c, e, h1⟩ := h1.form
  obtain ⟨b2, A', n', c', e', h2⟩ := h2.form
  simp at e e'
  obtain ⟨rfl, rfl⟩ := e
  obtain ⟨rfl, rfl⟩ := e'
  exact ⟨_, A, n, c, _, A', n', c', rfl, h1, h2⟩
theorem limR_mk {b b' : Bool} {m m' : Value} (h1 : LimI k w (.agg #[.bool b, m]) X) (h2 : LimI k w (.agg #[.bool b', m']) Y) : LimR k w (.agg #[.bool b, m, .bool b', m']) X Y := ⟨b, m, b', m', rfl, h1, h2⟩
theorem LimI.more {k k' : Nat} {w : World} {v : Value} {X : Int} (h : LimI k w v X) (hk : k ≤ k') : LimI k' w v X := by
  obtain ⟨b, m, N, h1, h2, h3⟩ := h
  exact ⟨b, m, N, h1, h2.more hk, h3⟩
theorem LimR.more (h : LimR k w v X Y) {k' : Nat} (hk : k ≤ k') : LimR k' w v X Y := by
  obtain ⟨b, m, b', m', h0, h1, h2⟩ := h
  exact ⟨b, m, b', m', h0, h1.more hk, h2.more hk⟩
theorem LimQ.more (h : LimQ k w v q) {k' : Nat} (hk : k ≤ k') : LimQ k' w v q := by
  obtain ⟨X, Y, h1, h2⟩ := h
  exact ⟨X, Y, h1.more hk, h2⟩
theorem LimR.lt (h : LimR k w v X Y) : X.natAbs < 4294967296 ^ k ∧ Y.natAbs < 4294967296 ^ k := by
  obtain ⟨b, m, b', m', h0, h1, h2⟩ := h
  exact ⟨h1.lt, h2.lt⟩
theorem IsRat.form (h : IsRat w v q) : ∃ b A n c b' A' n' c', v = .agg #[.bool b, .slice A n c, .bool b', .slice A' n' c'] ∧ b = decide (q.num < 0) ∧ b' = false ∧ (0 < n ↔ q.num ≠ 0) ∧ IsInt w (.agg #[.bool b, .slice A n c]) q.num ∧ IsInt w (.agg #[.bool b', .slice A' n' c']) (q.den : Int) := by
  obtain ⟨b, m, b', m', rfl, h1, h2⟩ := h
  obtain ⟨b1, A, n, c, e, e1, e2, h1⟩ := h1.form
  obtain ⟨b2, A', n', c', e', e1', e2', h2⟩ := h2.form
  simp at e e'
  obtain ⟨rfl, rfl⟩ := e
  obtain ⟨rfl, rfl⟩ := e'
  exact ⟨_, A, n, c, _, A', n', c', rfl, e1, by rw [e1']; exact decide_eq_false (by omega), e2, h1, h2⟩
theorem IsRat.limR (h : IsRat w v q) (hb : BQ k q) : LimR k w v q.num q.den := by
  obtain ⟨b, m, b', m', h0, h1, h2⟩ := h
  exact ⟨b, m, b', m', h0, h1.lim hb.1, h2.lim (by have := hb.2; omega)⟩
theorem den_pos' (q : Rat) : (0 : Int) < q.den := by have := q.den_pos; omega
theorem ratOf_num_den (q : Rat) : ratOf q.num q.den = q := by
  unfold ratOf
  rw [if_pos (den_pos' q)]
  exact Rat.num_divInt_den q
theorem IsRat.limP (h : IsRat w v q) (hb : BQ k q) : LimP k w v q := ⟨_, _, h.limR hb, den_pos' q, (Rat.num_divInt_den q).symm⟩
theorem IsRat.limQ (h : IsRat w v q) (hb : BQ k q) : LimQ k w v q := ⟨_, _, h.limR hb, (ratOf_num_den q).symm⟩
/-- The numbers of a fraction, taken down. -/
theorem divInt_parts (X : Int) (hY : 0 < Y) : (Rat.divInt X Y).num * (Int.gcd X Y : Int) = X ∧ ((Rat.divInt X Y).den : Int) * (Int.gcd X Y : Int) = Y ∧ 0 < Int.gcd X Y := by
  have hg : 0 < Int.gcd X Y := Int.gcd_pos_of_ne_zero_right _ (by omega)
  have hg' : Int.gcd Y X = Int.gcd X Y := Int.gcd_comm _ _
  refine ⟨?_, ?_, hg⟩
  · rw [Rat.num_divInt, Int.sign_eq_one_of_pos hY, Int.one_mul, hg']
    exact Int.ediv_mul_cancel (Int.gcd_dvd_left ..)
  · rw [Rat.den_divInt, if_neg (by omega), hg', ← Int.natCast_mul, Nat.div_mul_cancel (by rw [Int.gcd]; exact Nat.gcd_dvd_right _ _)]
    omega
theorem divInt_bq {k l : Nat} {X : Int} (hY : 0 < Y) (h1 : X.natAbs < 4294967296 ^ k) (h2 : Y.natAbs < 4294967296 ^ l) {m : Nat} (hk : k ≤ m) (hl : l ≤ m) : BQ m (Rat.divInt X Y) := by
  obtain ⟨e1, e2, hg⟩ := divInt_parts X hY
  have p1 : (4294967296 : Nat) ^ k ≤ 4294967296 ^ m := Nat.pow_le_pow_right (by omega) hk
  have p2 : (4294967296 : Nat) ^ l ≤ 4294967296 ^ m := Nat.pow_le_pow_right (by omega) hl
  generalize Int.gcd X Y = g at *
  constructor
  · have : X.natAbs = (Rat.divInt X Y).num.natAbs * g := by rw [← e1, Int.natAbs_mul, e1]; rfl
    have h3 : (Rat.divInt X Y).num.natAbs * 1 ≤ (Rat.divInt X Y).num.natAbs * g := Nat.mul_le_mul_left _ hg
    omega
  · have : Y.natAbs = (Rat.divInt X Y).den * g := by
      have : ((Rat.divInt X Y).den * g : Nat) = Y := by rw [Int.natCast_mul]; exact e2
      omega
    have h3 : (Rat.divInt X Y).den * 1 ≤ (Rat.divInt X Y).den * g := Nat.mul_le_mul_left _ hg
    omega
theorem bq_zero (hk : 1 ≤ k) : BQ k 0 := by
  have : (4294967296 : Nat) ^ 1 ≤ 4294967296 ^ k := Nat.pow_le_pow_right (by omega) hk
  refine ⟨?_, ?_⟩ <;> simp <;> omega
theorem BQ.more (h : BQ k q) (hk : k ≤ l) : BQ l q := by
  have : (4294967296 : Nat) ^ k ≤ 4294967296 ^ l := Nat.pow_le_pow_right (by omega) hk
  exact ⟨Nat.lt_of_lt_of_le h.1 this, Nat.lt_of_lt_of_le h.2 this⟩
theorem LimQ.bq (h : LimQ k w v q) (hk : 1 ≤ k) : BQ k q := by
  obtain ⟨X, Y, h1, rfl⟩ := h
  unfold ratOf
  split
  · exact divInt_bq ‹_› h1.lt.1 h1.lt.2 (Nat.le_refl _) (Nat.le_refl _)
  · exact bq_zero hk
theorem divInt_add {X Y X' Y' : Int} (h : 0 < Y) (h' : 0 < Y') : Rat.divInt X Y + Rat.divInt X' Y' = Rat.divInt (X * Y' + X' * Y) (Y * Y') := Rat.divInt_add_divInt _ _ (by omega) (by omega)
theorem divInt_mul {X Y X' Y' : Int} : Rat.divInt X Y * Rat.divInt X' Y' = Rat.divInt (X * X') (Y * Y') := Rat.divInt_mul_divInt _ _
theorem BQ.add (h : BQ k q) (h' : BQ l p) {m : Nat} (hm : k + l + 1 ≤ m) : BQ m (q + p) := by
  rw [← Rat.num_divInt_den q, ← Rat.num_divInt_den p, divInt_add (den_pos' q) (den_pos' p)]
  refine divInt_bq (Int.mul_pos (den_pos' q) (den_pos' p)) (i_add (i_mul h.1 (Y := (p.den : Int)) h'.2 (k + l) (by omega)) (i_mul h'.1 (Y := (q.den : Int)) h.2 (k + l) (by omega)) (k + l + 1) (by omega) (by omega)) (i_mul (X := (q.den : Int)) (Y := (p.den : Int)) h.2 h'.2 (k + l) (by omega)) hm (by omega)
theorem BQ.mul (h : BQ k q) (h' : BQ l p) {m : Nat} (hm : k + l ≤ m) : BQ m (q * p) := by
  rw [← Rat.num_divInt_den q, ← Rat.num_divInt_den p, divInt_mul]
  exact divInt_bq (Int.mul_pos (den_pos' q) (den_pos' p)) (i_mul h.1 h'.1 (k + l) (by omega)) (i_mul (X := (q.den : Int)) (Y := (p.den : Int)) h.2 h'.2 (k + l) (by omega)) hm hm
theorem BQ.neg (h : BQ k q) : BQ k (-q) := by
  refine ⟨?_, ?_⟩
  · rw [Rat.neg_num, Int.natAbs_neg]; exact h.1
  · rw [Rat.neg_den]; exact h.2
end
/-- Memory behind a call, before blocks that were made for it. -/
theorem bun {w w' : World} {o : Obj} (h : Below (w.alloc o).heap.size (w.alloc o) w') : Below w.heap.size w w' := (below_new w o).trans (h.mono (by simp))
theorem halloc {w w1 : World} (h : Below w.heap.size w w1) {o : Obj} : Below w.heap.size w (w1.alloc o) := h.alloc h.size o
theorem bset {B g i : Nat} {v : Value} {a w : World} (h : Below B a w) (hg : B ≤ g) : Below B a (w.setCell ⟨g, i, none⟩ v) := h.setCell hg _
theorem bundrew {w w' : World} (h : Below w.drew.heap.size w.drew w') : Below w.heap.size w w' := (Below.refl _ _).drew.trans h
theorem cell_far4 (w : World) (g g' i : Nat) (a b c d : Value) (hg : g ≠ g') : ((((w.setCell ⟨g', 0, none⟩ a).setCell ⟨g', 1, none⟩ b).setCell ⟨g', 2, none⟩ c).setCell ⟨g', 3, none⟩ d).cell? ⟨g, i, none⟩ = w.cell? ⟨g, i, none⟩ := by
  rw [World.cell?_setCell_far _ _ _ _ (fun e => hg e.symm), World.cell?_setCell_far _ _ _ _ (fun e => hg e.symm), World.cell?_setCell_far _ _ _ _ (fun e => hg e.symm), World.cell?_setCell_far _ _ _ _ (fun e => hg e.symm)]
section
variable {w : World} {g g' : Nat} {t : TypeId} {x0 x1 x2 x3 y0 y1 y2 y3 : Value}
theorem Blk.use2 (h : Blk w g t #[x0, x1]) : w.cell? ⟨g, 0, none⟩ = some x0 ∧ w.cell? ⟨g, 1, none⟩ = some x1 ∧ g < w.heap.size := ⟨h.cell 0, h.cell 1, h.lt⟩
theorem Blk.use4 (h : Blk w g t #[x0, x1, x2, x3]) : w.cell? ⟨g, 0, none⟩ = some x0 ∧ w.cell? ⟨g, 1, none⟩ = some x1 ∧ w.cell? ⟨g, 2, none⟩ = some x2 ∧ w.cell? ⟨g, 3, none⟩ = some x3 ∧ g < w.heap.size := ⟨h.cell 0, h.cell 1, h.cell 2, h.cell 3, h.lt⟩
/-- What a store of four cells asks. -/
theorem Blk.into4 (h : Blk w g t #[x0, x1, x2, x3]) : w.frozen? ⟨g, 0, none⟩ = false ∧ w.frozen? ⟨g, 1, none⟩ = false ∧ w.frozen? ⟨g, 2, none⟩ = false ∧ w.frozen? ⟨g, 3, none⟩ = false := h.frozen4
end
end Go.Proofs.YtebdmidghidaeaaGreat
