/- Contracts: the document's Seal and Open. -/
import Derived.Test.YtmedmeabjlmggaaCf
import Derived.Deep.RegionHeld3
namespace Go.Proofs.Ytmedmeabjlmggaa
open Go.RowKit

theorem el8 : Try.prog.underlying 24 = some (.slice (Try.prog.elem 24)) := by kernel_rfl
theorem sz8 (w : World) : (sizeOf (Try.prog.elem 24)).run Try.prog w = .ok 1 w := by kernel_rfl
theorem rest_at (ad : Addr) (n c l : Nat) (f : Nat → Nat) (w : World) (ha : Rd .u8 w (some ad) n f) (hc : n ≤ c) (hl : l ≤ n) :
    ∃ B : Addr, (∀ (wq : World) (L : Int), L = l → (Instr.slice 24 (.slice (some ad) n c) (some (.int .i64 L)) none none).run Try.prog wq = .ok (.slice (some B) (n - l) (c - l)) wq) ∧ Rd .u8 w (some B) (n - l) (fun j => f (l + j)) := by
  refine ⟨if c = l then ad else ad.add l, fun wq L hL => ?_, ?_⟩
  · subst hL
    rw [run_slice_l wq 24 (some ad) n c el8 .i64 l (by omega) (by omega), sz8]
    simp only [Result.andThen, sliced, Int.toNat_natCast, Nat.mul_one, Option.map_some]
    split <;> rfl
  · by_cases h : c = l
    · obtain rfl : l = n := by omega
      rw [Nat.sub_self]
      exact Rd.zero
    · rw [if_neg h]
      exact ha.drop hl

def four (a b c d : Nat) : Nat → Nat := fun j => if j = 0 then a else if j = 1 then b else if j = 2 then c else d
theorem own_four8 (w : World) (a b c d : Nat) : Own .u8 5 (w.alloc (.cells #[.int .u8 (a : Nat), .int .u8 (b : Nat), .int .u8 (c : Nat), .int .u8 (d : Nat)] 5)) w.heap.size (.slice (some ⟨w.heap.size, 0, none⟩) 4 4) 4 (four a b c d) :=
  World.ownsRow_lit w _ 4 (Nat.le_refl _) (by simp only [maxLen]; omega) rfl
theorem own_seal8 (w : World) (s : Nat) (f : Nat → Nat) (hs : s < 4294967296) : Own .u8 5 (w.alloc (.cells #[.int .u8 ((s : Int) % 256), .int .u8 ((s : Int) / 256 % 256), .int .u8 ((s : Int) / 65536 % 256), .int .u8 ((s : Int) / 16777216)] 5)) w.heap.size (.slice (some ⟨w.heap.size, 0, none⟩) 4 4) 4 (sealF s f) :=
  (own_four8 w (s % 256) (s / 256 % 256) (s / 65536 % 256) (s / 16777216)).congr fun j hj => by
    unfold four sealF
    rw [if_pos hj]
    have : j = 0 ∨ j = 1 ∨ j = 2 ∨ j = 3 := by omega
    rcases this with rfl | rfl | rfl | rfl
    · simp
    · simp
    · simp
    · simp; omega

def OpenB (f : Nat → Nat) (n : Nat) : Bool := decide (4 ≤ n ∧ num 256 f 4 = crcN (fun j => f (4 + j)) (n - 4))
def OpenYes (w w' : World) (e : Ending) (n : Nat) (f : Nat → Nat) : Prop := ∃ v, e = .returned (.tuple #[v, .bool true]) ∧ Byt w' v (n - 4) (fun j => f (4 + j)) ∧ Below w.heap.size w w'
def OpenNo (w w' : World) (e : Ending) : Prop := e = .returned (.tuple #[.slice none 0 0, .bool false]) ∧ Below w.heap.size w w'
def OpenPost (w w' : World) (e : Ending) (n : Nat) (f : Nat → Nat) : Prop := (OpenB f n = true ∧ OpenYes w w' e n f) ∨ (OpenB f n = false ∧ OpenNo w w' e)
theorem four_num {f : Nat → Nat} {S : Nat} (hf : ∀ j, j < 4 → f j < 256) (hS : S < 4294967296) : num 256 f 4 = S ↔ ∀ j, j < 4 → f j = S / 256 ^ j % 256 := by
  have e : num 256 f 4 = f 0 + f 1 * 256 + f 2 * 65536 + f 3 * 16777216 := by simp [num]
  have h0 := hf 0 (by omega)
  have h1 := hf 1 (by omega)
  have h2 := hf 2 (by omega)
  have h3 := hf 3 (by omega)
  rw [e]
  constructor
  · intro h j hj
    have : j = 0 ∨ j = 1 ∨ j = 2 ∨ j = 3 := by omega
    rcases this with rfl | rfl | rfl | rfl
    · simp; omega
    · simp; omega
    · simp; omega
    · simp; omega
  · intro h
    have q0 := h 0 (by omega)
    have q1 := h 1 (by omega)
    have q2 := h 2 (by omega)
    have q3 := h 3 (by omega)
    simp at q0 q1 q2 q3
    omega
theorem openB_true {f : Nat → Nat} {n : Nat} (h : 4 ≤ n) (hf : ∀ j, j < n → f j < 256) (hq : ∀ j, j < 4 → f j = crcN (fun j => f (4 + j)) (n - 4) / 256 ^ j % 256) : OpenB f n = true := by
  unfold OpenB
  rw [decide_eq_true_eq]
  exact ⟨h, (four_num (fun j hj => hf j (by omega)) (crcN_lt fun j hj => hf (4 + j) (by omega))).2 hq⟩
theorem openB_false {f : Nat → Nat} {n k : Nat} (hf : ∀ j, j < n → f j < 256) (h4 : 4 ≤ n) (hk : k < 4) (hq : f k ≠ crcN (fun j => f (4 + j)) (n - 4) / 256 ^ k % 256) : OpenB f n = false := by
  unfold OpenB
  rw [decide_eq_false_iff_not]
  intro h
  exact hq ((four_num (fun j hj => hf j (by omega)) (crcN_lt fun j hj => hf (4 + j) (by omega))).1 h.2 k hk)
theorem openB_few {f : Nat → Nat} {n : Nat} (h : n < 4) : OpenB f n = false := by
  unfold OpenB
  rw [decide_eq_false_iff_not]
  omega

end Go.Proofs.Ytmedmeabjlmggaa
