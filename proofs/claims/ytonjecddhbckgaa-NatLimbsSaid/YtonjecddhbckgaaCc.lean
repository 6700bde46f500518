/- Contracts: Trim. -/
import Derived.Test.YtonjecddhbckgaaCa
import Derived.Test.YtonjecddhbckgaaLaw
namespace Go.Proofs.Ytonjecddhbckgaa
open Go.RowKit

theorem tlen_lt_dig {f : Nat → Nat} {n L : Nat} (h : ∀ j, j < n → f j < L) : ∀ j, j < tlen f n → f j < L := fun j hj => h j (Nat.lt_of_lt_of_le hj (tlen_le n))

theorem u32_info : (Try.prog.info? 41).map (fun i => (i.zero, i.size, i.bytes)) = some (some (.int .u32 0), 1, 4) := by kernel_rfl
theorem u32_size : (Try.prog.info? 41).map (·.size) = some 1 := by kernel_rfl

def TrimPost (w w' : World) (e : Ending) (n : Nat) (f : Nat → Nat) : Prop :=
  e = .returned (.slice (some ⟨w.heap.size, 0, none⟩) (tlen f n) (tlen f n)) ∧ ∃ f', Row .u32 41 w' w.heap.size (tlen f n) f' ∧ (∀ j, j < tlen f n → f' j = f j) ∧ Below w.heap.size w w' ∧ w'.heap.size = w.heap.size + 1

set_option maxHeartbeats 400000 in
theorem trim_any (A : Option Addr) (n c : Nat) (f : Nat → Nat) (w : World) (hr : Rd .u32 w A n f) (hc : n ≤ c) (hn : n ≤ 17592186044416) :
    Calls Try.prog 16 #[.slice A n c] w fun e w' => TrimPost w w' e n f := by
  have ht := tlen_le (f := f) n
  go_enter Try.func16, Try.ntmps16
  go_wp2_with (first
    | (go_at_call 37; refine (cut_any A n c f _ hr hc (by omega)).mono ?_; rintro e w' ⟨rfl, rfl⟩)
    | (at_make; refine wpList_make_row rfl _ _ 22 rfl .u32 41 Try.underlying22 4 u32_info (by omega) .i64 .i64 _ _ (tlen f n) rfl rfl rfl rfl (by omega) ?_; intro w1 hrow1 hb1 hs1)
    | (with_reducible refine wpList_copy_rd rfl (.tmp 9) (.tmp 10) 22 22 rfl 41 Try.underlying22 u32_size .u32 _ 0 (tlen f n) (tlen f n) A (tlen f n) c rfl rfl 41 (tlen f n) (fun _ => 0) hrow1 f (tlen f n) (by simp) ((hr.below hb1).less ht) (by omega) ?_
       intro w2 hrow2 hwr2 hs2))
  go_ret
  exact ⟨rfl, _, hrow2, fun j hj => by simp only [splF]; rw [if_pos (by omega), Nat.sub_zero], hwr2.below hb1 hb1.size (Nat.le_refl _), by omega⟩

/-- The value is a number's limbs, trimmed. -/
def IsNat (w : World) (v : Value) (N : Nat) : Prop :=
  ∃ A n c f, v = .slice A n c ∧ n ≤ c ∧ Rd .u32 w A n f ∧ (∀ j, j < n → f j < 4294967296) ∧ Trimmed f n ∧ num 4294967296 f n = N
theorem IsNat.below {w w' : World} {v : Value} {N : Nat} (h : IsNat w v N) (hb : Below w.heap.size w w') : IsNat w' v N := by
  obtain ⟨A, n, c, f, h1, h2, h3, h4⟩ := h
  exact ⟨A, n, c, f, h1, h2, h3.below hb, h4⟩

def NatPost (w w' : World) (e : Ending) (N : Nat) : Prop := ∃ v, e = .returned v ∧ IsNat w' v N ∧ Below w.heap.size w w'

theorem num_pad {B : Nat} {h : Nat → Nat} {m : Nat} : ∀ n, m ≤ n → num B (fun j => if j < m then h j else 0) n = num B h m
  | 0, hm => by obtain rfl : m = 0 := by omega
                rfl
  | n + 1, hm => by
    by_cases e : m = n + 1
    · subst e; exact num_congr _ fun j hj => if_pos hj
    · rw [num_succ, num_pad n (by omega), if_neg (by omega)]; simp
theorem rd_mk {K : IntKind} {w : World} {A : Option Addr} {n : Nat} {f f' : Nat → Nat} (h : Rd K w A n f) (he : ∀ j, j < n → f' j = f j) : Rd K w A n f' := h.congr fun j hj => (he j hj).symm

/-- A row, cut: a number. -/
theorem isNat_row {t : TypeId} {w : World} {g sz : Nat} {f : Nat → Nat} {N : Nat} (h : Row .u32 t w g sz f) {n c : Nat} (hn : n ≤ sz) (hc : n ≤ c) (hf : ∀ j, j < n → f j < 4294967296) (hN : num 4294967296 f n = N) :
    IsNat w (.slice (some ⟨g, 0, none⟩) (tlen f n) c) N :=
  ⟨_, _, _, f, rfl, Nat.le_trans (tlen_le n) hc, (h.rd0 hn).less (tlen_le n), fun j hj => hf j (Nat.lt_of_lt_of_le hj (tlen_le n)), tlen_trimmed n, by rw [num_tlen, hN]⟩

theorem el22 : Try.prog.underlying 22 = some (.slice (Try.prog.elem 22)) := by kernel_rfl
theorem sz22 (w : World) : (sizeOf (Try.prog.elem 22)).run Try.prog w = .ok 1 w := by kernel_rfl
theorem sl22_lh (g o len cap l h : Nat) (h1 : l ≤ h) (h2 : h ≤ cap) (h3 : l < cap) (w : World) :
    (Instr.slice 22 (.slice (some ⟨g, o, none⟩) len cap) (some (.int .i64 l)) (some (.int .i64 h)) none).run Try.prog w = .ok (.slice (some ⟨g, o + l, none⟩) (h - l) (cap - l)) w := by
  rw [run_slice_lh w 22 (some ⟨g, o, none⟩) len cap el22 .i64 .i64 l h (by omega) (by omega) (by omega), sz22]
  simp only [Result.andThen, sliced, Int.toNat_natCast, Nat.mul_one]
  rw [if_neg (by omega)]
  simp only [Option.map_some, add_mk]
end Go.Proofs.Ytonjecddhbckgaa
