/- Contracts: limb, word, ofWord. -/
import Derived.Test.YtonjecddhbckgaaCj
import Derived.Test.YtonjecddhbckgaaCi
namespace Go.Proofs.Ytonjecddhbckgaa
open Go.RowKit

/-- Limb i, 0 behind the end. -/
def limbOf (f : Nat → Nat) (n i : Nat) : Nat := if i < n then f i else 0
theorem limbOf_lt {f : Nat → Nat} {n : Nat} (hf : ∀ j, j < n → f j < 4294967296) (i : Nat) : limbOf f n i < 4294967296 := by
  unfold limbOf; split
  · exact hf _ ‹_›
  · omega

set_option maxHeartbeats 400000 in
theorem limb_any (A : Option Addr) (n c i : Nat) (f : Nat → Nat) (w : World) (hr : Rd .u32 w A n f) (hf : ∀ j, j < n → f j < 4294967296) :
    Calls Try.prog 63 #[.slice A n c, .int .i64 (i : Nat)] w fun e w' => e = .returned (.int .u64 (limbOf f n i : Nat)) ∧ w' = w := by
  by_cases h : i < n
  · obtain ⟨ad, rfl, hcell⟩ := hr i h
    have hb := hf i h
    have e : limbOf f n i = f i := by unfold limbOf; rw [if_pos h]
    rw [e]
    clear hf hr e
    go_enter Try.func63, Try.ntmps63
    go_wp2
    go_ret
    exact ⟨rfl, rfl⟩
  · have e : limbOf f n i = 0 := by unfold limbOf; rw [if_neg h]
    rw [e]
    clear hf hr e
    go_enter Try.func63, Try.ntmps63
    go_wp2
    go_ret
    exact ⟨rfl, rfl⟩

theorem or_high32 (a b : Nat) (ha : a < 4294967296) (hb : b < 4294967296) : bits BinOp.or IntKind.u64 (a : Int) ((b : Int) * 4294967296) = ((a + b * 4294967296 : Nat) : Int) := by
  have e : (4294967296 : Nat) = 2 ^ 32 := by decide
  rw [show ((b : Int) * 4294967296) = ((b * 4294967296 : Nat) : Int) from by omega, u64_or_nat _ _ (by omega) (by omega)]
  congr 1
  rw [Nat.or_comm, Nat.add_comm, e, Nat.mul_comm]
  exact (Nat.two_pow_add_eq_or_of_lt (by rw [← e]; exact ha) b).symm

theorem num_two {f : Nat → Nat} {n : Nat} (hn : n ≤ 2) : num 4294967296 f n = limbOf f n 0 + limbOf f n 1 * 4294967296 := by
  have : n = 0 ∨ n = 1 ∨ n = 2 := by omega
  rcases this with rfl | rfl | rfl <;> simp [num, limbOf]

set_option maxHeartbeats 400000 in
theorem word_any (A : Option Addr) (n c : Nat) (f : Nat → Nat) (w : World) (hr : Rd .u32 w A n f) (hf : ∀ j, j < n → f j < 4294967296) (hn : n ≤ 2) :
    Calls Try.prog 49 #[.slice A n c] w fun e w' => e = .returned (.int .u64 (num 4294967296 f n : Nat)) ∧ w' = w := by
  have h0 := limbOf_lt hf 0
  have h1 := limbOf_lt hf 1
  have hor := or_high32 _ _ h0 h1
  rw [num_two hn]
  have d0 : Calls Try.prog 63 #[.slice A n c, .int .i64 0] w fun e w' => e = .returned (.int .u64 (limbOf f n 0 : Nat)) ∧ w' = w := limb_any A n c 0 f w hr hf
  have d1 : Calls Try.prog 63 #[.slice A n c, .int .i64 1] w fun e w' => e = .returned (.int .u64 (limbOf f n 1 : Nat)) ∧ w' = w := limb_any A n c 1 f w hr hf
  have D0 := Lib.hid d0
  have D1 := Lib.hid d1
  clear hr hf d0 d1
  generalize limbOf f n 0 = x at *
  generalize limbOf f n 1 = y at *
  have hN : (x : Int) + (y : Int) * 4294967296 = ((x + y * 4294967296 : Nat) : Int) := by omega
  rw [← hN] at hor ⊢
  clear hN
  go_enter Try.func49, Try.ntmps49
  go_wp2_with fail
  refine D0.out.mono ?_
  rintro e w' ⟨rfl, rfl⟩
  go_wp2_with fail
  refine D1.out.mono ?_
  rintro e w' ⟨rfl, rfl⟩
  go_wp2
  go_ret
  exact ⟨rfl, rfl⟩

theorem row_new {K : IntKind} {t : TypeId} (w : World) (cs : Array Value) (n : Nat) (f : Nat → Nat) (hn : cs.size = n) (h : ∀ j, j < n → cs[j]? = some (.int K (f j : Nat))) : Row K t (w.alloc (.cells cs t)) w.heap.size n f :=
  ⟨cs, heap_alloc_new w _, hn, h⟩

def two (x y : Nat) : Nat → Nat := fun j => if j = 0 then x else y
theorem row_two {K : IntKind} {t : TypeId} (w : World) (x y : Nat) : Row K t (w.alloc (.cells #[.int K (x : Nat), .int K (y : Nat)] t)) w.heap.size 2 (two x y) :=
  row_new w _ 2 _ rfl fun j hj => by
    have : j = 0 ∨ j = 1 := by omega
    rcases this with rfl | rfl <;> rfl
theorem row_one {K : IntKind} {t : TypeId} (w : World) (x : Nat) : Row K t (w.alloc (.cells #[.int K (x : Nat)] t)) w.heap.size 1 (fun _ => x) :=
  row_new w _ 1 _ rfl fun j hj => by
    obtain rfl : j = 0 := by omega
    rfl
theorem below_new (w : World) (o : Obj) : Below w.heap.size w (w.alloc o) := (Below.refl _ _).alloc (Nat.le_refl _) _

/-- cut of one limb, just made. -/
theorem cut_one (x : Nat) (w : World) (hx : x < 4294967296) (g : Nat) (hg : g = w.heap.size) :
    Calls Try.prog 37 #[.slice (some ⟨g, 0, none⟩) 1 1] (w.alloc (.cells #[.int .u32 (x : Nat)] 41)) fun e w' => NatPost w w' e x := by
  subst hg
  have hrow : Row .u32 41 (w.alloc (.cells #[.int .u32 (x : Nat)] 41)) w.heap.size 1 (fun _ => x) := row_one w x
  refine (cut_any _ 1 1 _ _ (hrow.rd0 (Nat.le_refl _)) (Nat.le_refl _) (by omega)).mono ?_
  rintro e w' ⟨rfl, rfl⟩
  exact ⟨_, rfl, isNat_row hrow (Nat.le_refl _) (Nat.le_refl _) (fun _ _ => hx) (by simp [num]), below_new _ _⟩

set_option maxHeartbeats 400000 in
theorem ofWord_any (N : Nat) (w : World) (hN : (N : Int) ≤ 18446744073709551615) :
    Calls Try.prog 48 #[.int .u64 (N : Nat)] w fun e w' => NatPost w w' e N := by
  go_enter Try.func48, Try.ntmps48
  go_wp2_with fail
  have hrow : Row .u32 41 (w.alloc (.cells #[.int .u32 (N % 4294967296 : Nat), .int .u32 (N / 4294967296 : Nat)] 41)) w.heap.size 2 (two (N % 4294967296) (N / 4294967296)) := row_two w _ _
  have q := isNat_row hrow (N := N) (Nat.le_refl _) (Nat.le_refl _) (fun j hj => by unfold two; split <;> omega) (by simp [num, two]; omega)
  have hrd := hrow.rd0 (Nat.le_refl _)
  have hb := below_new w (.cells #[.int .u32 (N % 4294967296 : Nat), .int .u32 (N / 4294967296 : Nat)] 41)
  refine (cut_any _ 2 2 _ _ hrd (Nat.le_refl _) (by omega)).mono ?_
  rintro e w' ⟨rfl, rfl⟩
  go_wp2
  go_ret
  exact ⟨_, rfl, q, hb⟩
end Go.Proofs.Ytonjecddhbckgaa
