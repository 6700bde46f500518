/- Whole numbers as values; contracts: signed, isBelow. -/
import Derived.Test.YtebdmidghidaeaaGreatPNatE
import Derived.Test.YtebdmidghidaeaaGreatPNatB
import Derived.Deep.RegionWith
import Derived.Deep.DrawnRows
import Derived.Test.YtebdmidghidaeaaGreatPNatD
import Derived.Test.YtebdmidghidaeaaGreatPNatC
import Derived.Test.YtebdmidghidaeaaGreatPNatBb
import Derived.Deep.RegionHeld3
namespace Go.Proofs.YtebdmidghidaeaaGreat
open Go.RowKit

/-- The whole number of a sign and a size. -/
def sg (b : Bool) (N : Nat) : Int := if b then -(N : Int) else (N : Int)
theorem sg_abs (b : Bool) (N : Nat) : (sg b N).natAbs = N := by unfold sg; cases b <;> simp
theorem sg_neg (b : Bool) (N : Nat) : decide (sg b N < 0) = (b && decide (0 < N)) := by
  unfold sg
  cases b
  · simp
  · by_cases h : 0 < N <;> simp [h]
/-- A whole number of at most k limbs, plain or not. -/
def LimI (k : Nat) (w : World) (v : Value) (Z : Int) : Prop := ∃ b m N, v = .agg #[.bool b, m] ∧ Lim k w m N ∧ Z = sg b N
/-- A plain whole number. -/
def IsInt (w : World) (v : Value) (Z : Int) : Prop := ∃ m, v = .agg #[.bool (decide (Z < 0)), m] ∧ IsNat w m Z.natAbs
theorem LimI.below {k : Nat} {w w' : World} {v : Value} {Z : Int} (h : LimI k w v Z) (hb : Below w.heap.size w w') : LimI k w' v Z := by
  obtain ⟨b, m, N, h1, h2, h3⟩ := h
  exact ⟨b, m, N, h1, h2.below hb, h3⟩
theorem IsInt.below {w w' : World} {v : Value} {Z : Int} (h : IsInt w v Z) (hb : Below w.heap.size w w') : IsInt w' v Z := by
  obtain ⟨m, h1, h2⟩ := h
  exact ⟨m, h1, h2.below hb⟩
theorem LimI.lt {k : Nat} {w : World} {v : Value} {Z : Int} (h : LimI k w v Z) : Z.natAbs < 4294967296 ^ k := by
  obtain ⟨b, m, N, h1, h2, rfl⟩ := h
  rw [sg_abs]
  exact h2.lt
theorem sg_of (Z : Int) : sg (decide (Z < 0)) Z.natAbs = Z := by
  unfold sg
  by_cases h : Z < 0
  · rw [decide_eq_true h, if_pos rfl]; omega
  · rw [decide_eq_false h]; simp; omega
theorem IsInt.lim {k : Nat} {w : World} {v : Value} {Z : Int} (h : IsInt w v Z) (hZ : Z.natAbs < 4294967296 ^ k) : LimI k w v Z := by
  obtain ⟨m, h1, h2⟩ := h
  exact ⟨_, m, _, h1, h2.lim hZ, (sg_of Z).symm⟩
def IntPost (w w' : World) (e : Ending) (Z : Int) : Prop := ∃ v, e = .returned v ∧ IsInt w' v Z ∧ Below w.heap.size w w'
theorem isInt_sg {w : World} {m : Value} {b : Bool} {N : Nat} (h : IsNat w m N) : IsInt w (.agg #[.bool (b && decide (0 < N)), m]) (sg b N) :=
  ⟨m, by rw [sg_neg], by rw [sg_abs]; exact h⟩
theorem isNat_form {w : World} {v : Value} {N : Nat} (h : IsNat w v N) : ∃ A n c, v = .slice A n c ∧ (0 < n ↔ 0 < N) ∧ IsNat w (.slice A n c) N := by
  obtain ⟨A, n, c, f, rfl, a1, a2, a3, a4, a5⟩ := h
  refine ⟨A, n, c, rfl, ⟨fun h0 => ?_, fun h0 => ?_⟩, A, n, c, f, rfl, a1, a2, a3, a4, a5⟩
  · have := a4.pos (B := 4294967296) (by omega) h0; omega
  · rcases Nat.eq_zero_or_pos n with h | h
    · subst h; rw [← a5] at h0; simp [num] at h0
    · exact h
set_option maxHeartbeats 1000000 in
theorem signed_any (b : Bool) (A : Option Addr) (n c N : Nat) (w : World) (h : IsNat w (.slice A n c) N) (hn : 0 < n ↔ 0 < N) :
    Calls Tryz.prog 84 #[.bool b, .slice A n c] w fun e w' => IntPost w w' e (sg b N) := by
  have H := Lib.hid h
  have HS : Hid (decide (0 < n) = decide (0 < N)) := by
    show _ = _
    by_cases x : 0 < n
    · rw [decide_eq_true x, decide_eq_true (hn.1 x)]
    · rw [decide_eq_false x, decide_eq_false (by rw [← hn]; exact x)]
  clear h hn
  cases b
  · go_enter Tryz.func84, Tryz.ntmps84
    go_wp2
    exact bodyPost_ret (v := .agg #[.bool false, .slice A n c]) (by simp [results, Tryz.results84, go_sem]) rfl ⟨_, rfl, isInt_sg (b := false) (H.out.below (below_new _ _)), below_new _ _⟩
  · go_enter Tryz.func84, Tryz.ntmps84
    go_wp2
    refine bodyPost_ret (v := .agg #[.bool (decide (0 < n)), .slice A n c]) (by simp [results, Tryz.results84, go_sem]) rfl ⟨_, rfl, ?_, below_new _ _⟩
    have e : decide (0 < n) = (true && decide (0 < N)) := by rw [Bool.true_and, HS.out]
    rw [e]
    exact isInt_sg (b := true) (H.out.below (below_new _ _))
theorem Lim.alloc_ {k : Nat} {w : World} {v : Value} {N : Nat} (h : Lim k w v N) (o : Obj) : Lim k (w.alloc o) v N := h.below (below_new w o)
theorem Lim.drew_ {k : Nat} {w : World} {v : Value} {N : Nat} (h : Lim k w v N) : Lim k w.drew v N := h
theorem lim_nil (w : World) : Lim 0 w (.slice none 0 0) 0 := ⟨none, 0, 0, fun _ => 0, rfl, Nat.le_refl _, Rd.zero, fun j hj => absurd hj (by omega), Nat.le_refl _, rfl⟩
theorem cmpN_zero (N : Nat) : decide (0 < cmpN N 0) = decide (0 < N) := by
  unfold cmpN
  by_cases h : 0 < N
  · rw [if_neg (by omega), if_neg (by omega), decide_eq_true h]; rfl
  · rw [if_neg (by omega), if_pos (by omega), decide_eq_false h]; rfl
set_option maxHeartbeats 1000000 in
theorem isBelow_any (b : Bool) (A : Option Addr) (n c N k : Nat) (w : World) (h : Lim k w (.slice A n c) N) (hk : k ≤ 1000000) :
    Calls Tryz.prog 86 #[.agg #[.bool b, .slice A n c]] w fun e w' => e = .returned (.bool (decide (sg b N < 0))) ∧ Below w.heap.size w w' := by
  have HSG := Lib.hid (sg_neg b N)
  generalize decide (sg b N < 0) = r at *
  cases b
  · have hr : r = false := by rw [HSG.out]; rfl
    subst hr
    go_enter Tryz.func86, Tryz.ntmps86
    go_wp2
    go_ret
    exact ⟨rfl, below_new _ _⟩
  · have hr : r = decide (0 < N) := by rw [HSG.out]; rfl
    subst hr
    have CM := Lib.hid (lim_cmp (h.alloc_ (.cells #[.bool true, .slice A n c] 25)) (lim_nil _) hk (by omega))
    have HC := Lib.hid (cmpN_zero N)
    clear h HSG
    go_enter Tryz.func86, Tryz.ntmps86
    go_wp2_with fail
    refine CM.out.mono ?_
    rintro e w1 ⟨rfl, hb⟩
    have HB := Lib.hid ((below_new w _).trans (hb.mono (by simp)))
    clear hb CM
    go_wp2
    go_ret
    exact ⟨by rw [← HC.out]; rfl, HB.out⟩
theorem bcell {W w1 : World} (hb : Below W.heap.size W w1) : (∀ b o, b < W.heap.size → w1.cell? ⟨b, o, none⟩ = W.cell? ⟨b, o, none⟩) ∧ (∀ b o, b < W.heap.size → w1.frozen? ⟨b, o, none⟩ = W.frozen? ⟨b, o, none⟩) :=
  ⟨fun b o h => hb.cell (p := ⟨b, o, none⟩) h, fun b o h => hb.frozen (p := ⟨b, o, none⟩) h⟩
/-- The second cell of a block of two, while the first is stored. -/
theorem second_cell {w : World} {g : Nat} {x : Value} (h : w.cell? ⟨g, 1, none⟩ = some x) (v : Value) : (w.setCell ⟨g, 0, none⟩ v).cell? ⟨g, 1, none⟩ = some x := by
  rw [World.cell?_setCell_other (w := w) (v := v) (a := ⟨g, 0, none⟩) (b := ⟨g, 1, none⟩) (by simp)]
  exact h
theorem Rd.apart {K : IntKind} {w : World} {A : Option Addr} {n : Nat} {f : Nat → Nat} {p : Addr} {x : Value} (h : Rd K w A n f) (hp : w.cell? p = some x) (hx : ∀ z, x ≠ .int K z) (y : Value) : Rd K (w.setCell p y) A n f := fun j hj => by
  obtain ⟨ad, e, hc⟩ := h j hj
  refine ⟨ad, e, ?_⟩
  rw [World.cell?_setCell_other (w := w) (v := y) (a := p) (b := ad.add j) (fun he => by rw [← he, hp] at hc; injection hc with hc; exact hx _ hc)]
  exact hc
theorem IsNat.apart {w : World} {v : Value} {N : Nat} {p : Addr} {x : Value} (h : IsNat w v N) (hp : w.cell? p = some x) (hx : ∀ z, x ≠ .int .u32 z) (y : Value) : IsNat (w.setCell p y) v N := by
  obtain ⟨A, n, c, f, h1, h2, h3, h4⟩ := h
  exact ⟨A, n, c, f, h1, h2, h3.apart hp hx y, h4⟩
/-- A number stored into a block of two cells that holds another one. -/
theorem IsNat.stored {w : World} {v : Value} {N : Nat} {g : Nat} {b0 : Bool} {A0 : Option Addr} {n0 c0 : Nat} (h : IsNat w v N) (h0 : w.cell? ⟨g, 0, none⟩ = some (.bool b0)) (h1 : w.cell? ⟨g, 1, none⟩ = some (.slice A0 n0 c0)) (x y : Value) :
    IsNat ((w.setCell ⟨g, 0, none⟩ x).setCell ⟨g, 1, none⟩ y) v N :=
  (h.apart h0 (fun z e => by cases e) x).apart (second_cell h1 x) (fun z e => by cases e) y
theorem first_cell {w : World} {g : Nat} {x : Value} (h : w.cell? ⟨g, 0, none⟩ = some x) (v : Value) : (w.setCell ⟨g, 0, none⟩ v).cell? ⟨g, 0, none⟩ = some v := World.cell?_setCell_same w ⟨g, 0, none⟩ v h
/-- A result's block, just made. -/
theorem res_new (w : World) (g : Nat) (hg : g = w.heap.size) (x y : Value) : (w.alloc (.cells #[x, y] 25)).cell? ⟨g, 0, none⟩ = some x ∧ (w.alloc (.cells #[x, y] 25)).cell? ⟨g, 1, none⟩ = some y := by
  subst hg
  have h := heap_alloc_new w (.cells #[x, y] 25)
  exact ⟨by rw [cell_of_row _ _ 0 _ _ _ h]; rfl, by rw [cell_of_row _ _ 1 _ _ _ h]; rfl⟩
end Go.Proofs.YtebdmidghidaeaaGreat
