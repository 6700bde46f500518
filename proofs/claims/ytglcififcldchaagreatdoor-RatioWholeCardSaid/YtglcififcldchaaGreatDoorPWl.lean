/- What a law over whole numbers wants: facts that stay, few, literals. -/
import Derived.Test.YtglcififcldchaaGreatDoorPWk
namespace Go.Proofs.YtglcififcldchaaGreatDoor
open Go.RowKit

theorem LimI.alloc_ {k : Nat} {w : World} {v : Value} {Z : Int} (h : LimI k w v Z) (o : Obj) : LimI k (w.alloc o) v Z := h.below (below_new w o)
theorem LimI.drew_ {k : Nat} {w : World} {v : Value} {Z : Int} (h : LimI k w v Z) : LimI k w.drew v Z := h
theorem IsInt.alloc_ {w : World} {v : Value} {Z : Int} (h : IsInt w v Z) (o : Obj) : IsInt (w.alloc o) v Z := h.below (below_new w o)
theorem IsInt.drew_ {w : World} {v : Value} {Z : Int} (h : IsInt w v Z) : IsInt w.drew v Z := h
theorem IsInt.form {w : World} {v : Value} {Z : Int} (h : IsInt w v Z) : ∃ b A n c, v = .agg #[.bool b, .slice A n c] ∧ b = decide (Z < 0) ∧ (0 < n ↔ Z ≠ 0) ∧ IsInt w (.agg #[.bool b, .slice A n c]) Z := by
  obtain ⟨m, rfl, hm⟩ := h
  obtain ⟨A, n, c, rfl, hn, hm⟩ := isNat_form hm
  exact ⟨_, A, n, c, rfl, rfl, by omega, _, rfl, hm⟩
theorem li_cmp_is {k l : Nat} {w : World} {v v' : Value} {X Y : Int} (r : Int) (hr : cmpI X Y = r) (h : LimI k w v X) (h' : LimI l w v' Y) (hk : k ≤ 1000000) (hl : l ≤ 1000000) : Calls Tryz.prog 52 #[v, v'] w fun e w' => e = .returned (.int .i64 r) ∧ Below w.heap.size w w' := by
  subst hr
  exact li_cmp h h' hk hl
theorem rof_any (n : Int) (w : World) (h1 : -9223372036854775808 ≤ n) (h2 : n ≤ 9223372036854775807) : Calls Tryz.prog 48 #[.int .i64 n] w fun e w' => IntPost w w' e n := by
  have e := sg_of n
  have := rof_ (decide (n < 0)) n.natAbs w (by omega) (by rw [e]) (fun h => by have := of_decide_eq_false h; omega)
  rw [e] at this
  exact this
theorem i_add {k m : Nat} {X Y : Int} (h : X.natAbs < 4294967296 ^ k) (h' : Y.natAbs < 4294967296 ^ m) (q : Nat) (hk : k < q) (hm : m < q) : (X + Y).natAbs < 4294967296 ^ q :=
  Nat.lt_of_le_of_lt (Int.natAbs_add_le X Y) (lt_add h h' q hk hm)
theorem i_sub {k m : Nat} {X Y : Int} (h : X.natAbs < 4294967296 ^ k) (h' : Y.natAbs < 4294967296 ^ m) (q : Nat) (hk : k < q) (hm : m < q) : (X - Y).natAbs < 4294967296 ^ q := by
  have := lt_add h h' q hk hm
  omega
theorem i_mul {k m : Nat} {X Y : Int} (h : X.natAbs < 4294967296 ^ k) (h' : Y.natAbs < 4294967296 ^ m) (q : Nat) (hq : k + m ≤ q) : (X * Y).natAbs < 4294967296 ^ q := by
  rw [Int.natAbs_mul]
  exact lt_mul h h' q hq
theorem limI_zero (w : World) : LimI 0 w (.agg #[.bool false, .slice none 0 0]) 0 := ⟨false, _, 0, rfl, lim_nil w, rfl⟩
end Go.Proofs.YtglcififcldchaaGreatDoor
