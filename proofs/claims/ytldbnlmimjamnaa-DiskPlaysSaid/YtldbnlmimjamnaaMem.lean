/- Slices of integers in memory, read as functions from places to numbers; numbers in a base. Nothing of the program is in here. -/
import Derived.Below
import Derived.Laws.OwnMore
import Derived.Laws.MakeOwn
import Derived.Laws.CopyOwn
import Derived.Laws.NewBlocks
import Derived.Laws.Rows
import Derived.Lib.Hide
namespace Go.Proofs.Ytldbnlmimjamnaa
open Go.RowKit

theorem add_block (a : Addr) (n : Nat) : (a.add n).block = a.block := by unfold Addr.add; split <;> rfl
theorem add_add (a : Addr) (i j : Nat) : (a.add i).add j = a.add (i + j) := by
  unfold Addr.add
  by_cases hi : i = 0 <;> by_cases hj : j = 0 <;> simp [hi, hj, Nat.add_assoc]
theorem add_mk (g o n : Nat) : (⟨g, o, none⟩ : Addr).add n = ⟨g, o + n, none⟩ := by
  unfold Addr.add
  by_cases hn : n = 0 <;> simp [hn]

/-- The n cells from A on read as f. -/
def Rd (K : IntKind) (w : World) (A : Option Addr) (n : Nat) (f : Nat → Nat) : Prop :=
  ∀ j, j < n → ∃ ad, A = some ad ∧ w.cell? (ad.add j) = some (.int K (f j : Nat))

/-- The world changed in block g alone (and in new blocks). -/
def Wr (g : Nat) (w w' : World) : Prop := w.grownBy w' (some g)

/-- No cell of A lies in block g. -/
def Off (A : Option Addr) (g : Nat) : Prop := ∀ ad, A = some ad → ad.block ≠ g

section
variable {K : IntKind} {w w' w'' : World} {A : Option Addr} {n m g : Nat} {f : Nat → Nat}

theorem Rd.zero : Rd K w A 0 f := fun _ h => absurd h (by omega)
theorem Rd.drew (h : Rd K w A n f) : Rd K w.drew A n f := h
theorem Rd.less (h : Rd K w A n f) (hm : m ≤ n) : Rd K w A m f := fun j hj => h j (by omega)
theorem Rd.below (h : Rd K w A n f) (hb : Below w.heap.size w w') : Rd K w' A n f := fun j hj => by
  obtain ⟨ad, e, hc⟩ := h j hj
  exact ⟨ad, e, (hb.cell (p := ad.add j) (block_lt_of_cell hc)).trans hc⟩
theorem Rd.keep {B : Nat} (h : Rd K w A n f) (hB : ∀ ad, A = some ad → ad.block < B) (hb : Below B w w') : Rd K w' A n f := fun j hj => by
  obtain ⟨ad, e, hc⟩ := h j hj
  exact ⟨ad, e, (hb.cell (p := ad.add j) (by rw [add_block]; exact hB _ e)).trans hc⟩
theorem Rd.wr (h : Rd K w A n f) (ho : Off A g) (hb : Wr g w w') : Rd K w' A n f := fun j hj => by
  obtain ⟨ad, e, hc⟩ := h j hj
  refine ⟨ad, e, hb.cell hc ?_⟩
  rw [add_block]
  intro he
  exact ho ad e (Option.some.inj he)
theorem Rd.congr {f' : Nat → Nat} (h : Rd K w A n f) (he : ∀ j, j < n → f j = f' j) : Rd K w A n f' := fun j hj => by
  obtain ⟨ad, e, hc⟩ := h j hj
  exact ⟨ad, e, by rw [hc, he j hj]⟩
theorem Rd.some_ (h : Rd K w A n f) (hn : 0 < n) : ∃ ad, A = some ad ∧ ad.block < w.heap.size := by
  obtain ⟨ad, e, hc⟩ := h 0 hn
  exact ⟨ad, e, by have := block_lt_of_cell hc; rwa [add_block] at this⟩
theorem Rd.at_ {ad : Addr} (h : Rd K w (some ad) n f) {j : Nat} (hj : j < n) : w.cell? (ad.add j) = some (.int K (f j : Nat)) := by
  obtain ⟨ad', e, hc⟩ := h j hj
  injection e with e
  subst e
  exact hc
theorem Rd.drop {ad : Addr} (h : Rd K w (some ad) n f) {k : Nat} (hk : k ≤ n) : Rd K w (some (ad.add k)) (n - k) (fun j => f (k + j)) := fun j hj =>
  ⟨_, rfl, by rw [add_add]; exact h.at_ (by omega)⟩
theorem Rd.off_lt (h : Rd K w A n f) (hn : 0 < n) (hg : w.heap.size ≤ g) : Off A g := fun ad e he => by
  obtain ⟨ad', e', hc⟩ := h 0 hn
  rw [e] at e'
  injection e' with e'
  subst e'
  have := block_lt_of_cell hc
  rw [add_block] at this
  omega

theorem Wr.refl : Wr g w w := ⟨rfl, rfl, rfl, Nat.le_refl _, fun _ _ _ => rfl⟩
theorem Wr.trans (h : Wr g w w') (h' : Wr g w' w'') : Wr g w w'' :=
  ⟨h'.os.trans h.os, h'.tape.trans h.tape, h'.output.trans h.output, Nat.le_trans h.size h'.size, fun k hk hne =>
    (h'.block k (Nat.lt_of_lt_of_le hk h.size) hne).trans (h.block k hk hne)⟩
theorem Wr.set_ (w : World) (g i : Nat) (v : Value) : Wr g w (w.setCell ⟨g, i, none⟩ v) :=
  ⟨rfl, rfl, rfl, by simp [World.setCell], fun k _ hne => Below.heap_setCell w ⟨g, i, none⟩ v k (fun e => hne (by rw [e]))⟩
theorem Wr.setCell (h : Wr g w w') (i : Nat) (v : Value) : Wr g w (w'.setCell ⟨g, i, none⟩ v) := h.trans (Wr.set_ _ _ _ _)
theorem Wr.drew (h : Wr g w w') : Wr g w w'.drew := ⟨h.os, h.tape, h.output, h.size, h.block⟩
theorem Wr.of_below (h : Below w.heap.size w w') : Wr g w w' :=
  ⟨h.os, h.tape, h.output, h.size, fun k hk _ => h.block k hk⟩
theorem Wr.below {B : Nat} {a : World} (h : Wr g w w') (hb : Below B a w) (hB : B ≤ w.heap.size) (hg : B ≤ g) : Below B a w' :=
  hb.grown h hB fun k hk => by injection hk with hk; omega
end

/-- Block g is all of it known: sz integers, f. -/
def Row (K : IntKind) (t : TypeId) (w : World) (g sz : Nat) (f : Nat → Nat) : Prop :=
  ∃ cs : Array Value, w.heap[g]? = some (.cells cs t (0, 0)) ∧ cs.size = sz ∧ ∀ j, j < sz → cs[j]? = some (.int K (f j : Nat))

def upd (f : Nat → Nat) (i v : Nat) : Nat → Nat := fun j => if j = i then v else f j
theorem upd_same (f : Nat → Nat) (i v : Nat) : upd f i v i = v := by simp [upd]
theorem upd_ne (f : Nat → Nat) (i v : Nat) {j : Nat} (h : j ≠ i) : upd f i v j = f j := by simp [upd, h]

section
variable {K : IntKind} {t : TypeId} {w w' : World} {g sz : Nat} {f : Nat → Nat}
theorem Row.lt (h : Row K t w g sz f) : g < w.heap.size := by
  obtain ⟨cs, hg, _⟩ := h
  rcases Nat.lt_or_ge g w.heap.size with hlt | hge
  · exact hlt
  · rw [Array.getElem?_eq_none hge] at hg; cases hg
theorem Row.cell (h : Row K t w g sz f) {j : Nat} (hj : j < sz) : w.cell? ⟨g, j, none⟩ = some (.int K (f j : Nat)) := by
  obtain ⟨cs, hg, _, hc⟩ := h
  rw [cell_of_row w g j cs t (0, 0) hg, hc j hj]
theorem Row.frozen (h : Row K t w g sz f) (j : Nat) : w.frozen? ⟨g, j, none⟩ = false := by
  obtain ⟨cs, hg, _⟩ := h
  exact frozen_of_row w g j cs t hg
theorem Row.set_ (h : Row K t w g sz f) (i v : Nat) : Row K t (w.setCell ⟨g, i, none⟩ (.int K (v : Nat))) g sz (upd f i v) := by
  obtain ⟨cs, hg, hs, hc⟩ := h
  refine ⟨cs.setIfInBounds i (.int K (v : Nat)), ?_, by simpa using hs, fun j hj => ?_⟩
  · simp [World.setCell, Array.getElem?_modify, hg]
  · by_cases hji : j = i
    · subst hji; rw [upd_same]; simp [hs, hj]
    · rw [upd_ne _ _ _ hji, Array.getElem?_setIfInBounds_ne (fun e => hji e.symm)]; exact hc j hj
theorem Row.congr {f' : Nat → Nat} (h : Row K t w g sz f) (he : ∀ j, j < sz → f j = f' j) : Row K t w g sz f' := by
  obtain ⟨cs, hg, hs, hc⟩ := h
  exact ⟨cs, hg, hs, fun j hj => by rw [hc j hj, he j hj]⟩
theorem Row.rd (h : Row K t w g sz f) {o n : Nat} (hn : o + n ≤ sz) : Rd K w (some ⟨g, o, none⟩) n (fun j => f (o + j)) := fun j hj =>
  ⟨_, rfl, by rw [add_mk]; exact h.cell (by omega)⟩
theorem Row.rd0 (h : Row K t w g sz f) {n : Nat} (hn : n ≤ sz) : Rd K w (some ⟨g, 0, none⟩) n f := fun j hj =>
  ⟨_, rfl, by rw [add_mk, Nat.zero_add]; exact h.cell (by omega)⟩
theorem Row.wr {g' : Nat} (h : Row K t w g sz f) (hne : g ≠ g') (hb : Wr g' w w') : Row K t w' g sz f := by
  have hlt := h.lt
  obtain ⟨cs, hg, r⟩ := h
  exact ⟨cs, (hb.block g hlt (fun e => hne (Option.some.inj e))).trans hg, r⟩
theorem Row.below {B : Nat} (h : Row K t w g sz f) (hb : Below B w w') (hB : g < B) : Row K t w' g sz f := by
  obtain ⟨cs, hg, r⟩ := h
  exact ⟨cs, (hb.block g hB).trans hg, r⟩
theorem Row.keep (h : Row K t w g sz f) (hb : Below w.heap.size w w') : Row K t w' g sz f := h.below hb h.lt
theorem Row.drew (h : Row K t w g sz f) : Row K t w.drew g sz f := h
theorem madeCells_get (z : Value) (n j : Nat) (hj : j < n) : (madeCells #[z] n)[j]? = some z := by
  simp [madeCells, hj, Nat.mod_one]
theorem Row.made (w : World) (n : Nat) : Row K t (w.alloc (.cells (madeCells #[.int K 0] n) t)) w.heap.size n (fun _ => 0) :=
  ⟨_, heap_alloc_new w _, size_madeCells _ _, fun _ hj => madeCells_get _ _ _ hj⟩
end

/-- The number that digits are, the least first. -/
def num (B : Nat) (f : Nat → Nat) : Nat → Nat
  | 0 => 0
  | n + 1 => num B f n + f n * B ^ n

/-- The last digit isn't 0. -/
def Trimmed (f : Nat → Nat) (n : Nat) : Prop := n = 0 ∨ f (n - 1) ≠ 0

/-- How many digits are left without the zeros at the end. -/
def tlen (f : Nat → Nat) : Nat → Nat
  | 0 => 0
  | n + 1 => if f n = 0 then tlen f n else n + 1

section
variable {B : Nat} {f f' : Nat → Nat} {n m : Nat}
theorem num_zero : num B f 0 = 0 := rfl
theorem num_succ : num B f (n + 1) = num B f n + f n * B ^ n := rfl
theorem num_congr : ∀ n, (∀ j, j < n → f j = f' j) → num B f n = num B f' n
  | 0, _ => rfl
  | n + 1, h => by rw [num_succ, num_succ, num_congr n (fun j hj => h j (by omega)), h n (by omega)]
theorem num_zeros : ∀ n, (∀ j, j < n → f j = 0) → num B f n = 0
  | 0, _ => rfl
  | n + 1, h => by rw [num_succ, num_zeros n (fun j hj => h j (by omega)), h n (by omega)]; simp
theorem num_add : ∀ m, num B f (n + m) = num B f n + B ^ n * num B (fun j => f (n + j)) m
  | 0 => by simp [num]
  | m + 1 => by
    rw [← Nat.add_assoc, num_succ, num_add m, num_succ, Nat.pow_add, Nat.mul_add, Nat.add_assoc]
    congr 1
    congr 1
    rw [Nat.mul_comm (f (n + m)), Nat.mul_assoc, Nat.mul_comm (B ^ m)]
theorem num_lt (hB : 0 < B) : ∀ n, (∀ j, j < n → f j < B) → num B f n < B ^ n
  | 0, _ => by simp [num]
  | n + 1, h => by
    have h1 := num_lt hB n (fun j hj => h j (by omega))
    have h2 := h n (by omega)
    rw [num_succ, Nat.pow_succ, Nat.mul_comm (B ^ n)]
    have h3 : (f n + 1) * B ^ n ≤ B * B ^ n := Nat.mul_le_mul_right _ h2
    rw [Nat.add_mul, Nat.one_mul] at h3
    omega
theorem num_first (h : 0 < n) : num B f n = f 0 + B * num B (fun j => f (j + 1)) (n - 1) := by
  obtain ⟨k, rfl⟩ : ∃ k, n = 1 + k := ⟨n - 1, by omega⟩
  rw [num_add]
  have e : (fun j => f (1 + j)) = fun j => f (j + 1) := funext fun j => by rw [Nat.add_comm]
  simp [num, e]
theorem num_inj (hB : 0 < B) : ∀ n, (∀ j, j < n → f j < B) → (∀ j, j < n → f' j < B) → num B f n = num B f' n → ∀ j, j < n → f j = f' j
  | 0, _, _, _ => fun j hj => absurd hj (by omega)
  | n + 1, h, h', he => by
    have h1 := num_lt hB n (fun j hj => h j (by omega))
    have h2 := num_lt hB n (fun j hj => h' j (by omega))
    rw [num_succ, num_succ] at he
    have hp : 0 < B ^ n := Nat.pow_pos hB
    have e1 : f n = f' n := by
      have a1 : (num B f n + f n * B ^ n) / B ^ n = f n := by rw [Nat.add_mul_div_right _ _ hp, Nat.div_eq_of_lt h1, Nat.zero_add]
      have a2 : (num B f' n + f' n * B ^ n) / B ^ n = f' n := by rw [Nat.add_mul_div_right _ _ hp, Nat.div_eq_of_lt h2, Nat.zero_add]
      rw [← a1, ← a2, he]
    have e2 : num B f n = num B f' n := by rw [e1] at he; omega
    intro j hj
    by_cases hjn : j = n
    · subst hjn; exact e1
    · exact num_inj hB n (fun j hj => h j (by omega)) (fun j hj => h' j (by omega)) e2 j (by omega)
theorem Trimmed.zero : Trimmed f 0 := .inl rfl
theorem Trimmed.low (h : Trimmed f n) (hn : 0 < n) : B ^ (n - 1) ≤ num B f n := by
  obtain ⟨k, rfl⟩ : ∃ k, n = k + 1 := ⟨n - 1, by omega⟩
  rcases h with h | h
  · omega
  · rw [num_succ]
    simp only [Nat.add_sub_cancel] at h ⊢
    have : 1 * B ^ k ≤ f k * B ^ k := Nat.mul_le_mul_right _ (by omega)
    omega
/-- A trimmed number below B^k has at most k digits. -/
theorem Trimmed.len (h : Trimmed f n) (hB : 1 < B) {k : Nat} (hk : num B f n < B ^ k) : n ≤ k := by
  rcases Nat.eq_zero_or_pos n with h0 | h0
  · omega
  · have h1 := h.low h0 (B := B)
    have h2 : B ^ (n - 1) < B ^ k := by omega
    have := (Nat.pow_lt_pow_iff_right hB).1 h2
    omega
theorem Trimmed.pos (h : Trimmed f n) (hB : 0 < B) (hn : 0 < n) : 0 < num B f n := by
  have := h.low hn (B := B)
  have hp : 0 < B ^ (n - 1) := Nat.pow_pos hB
  omega
theorem Trimmed.uniq (h : Trimmed f n) (h' : Trimmed f' m) (hB : 1 < B) (hf : ∀ j, j < n → f j < B) (hf' : ∀ j, j < m → f' j < B) (he : num B f n = num B f' m) :
    n = m ∧ ∀ j, j < n → f j = f' j := by
  have h1 : n ≤ m := h.len hB (by rw [he]; exact num_lt (by omega) m hf')
  have h2 : m ≤ n := h'.len hB (by rw [← he]; exact num_lt (by omega) n hf)
  obtain rfl : n = m := by omega
  exact ⟨rfl, num_inj (by omega) n hf hf' he⟩
theorem tlen_le : ∀ n, tlen f n ≤ n
  | 0 => Nat.le_refl _
  | n + 1 => by have := tlen_le n; simp only [tlen]; split <;> omega
theorem tlen_trimmed : ∀ n, Trimmed f (tlen f n)
  | 0 => .inl rfl
  | n + 1 => by
    simp only [tlen]
    split
    · exact tlen_trimmed n
    · right; simpa
theorem num_tlen : ∀ n, num B f (tlen f n) = num B f n
  | 0 => rfl
  | n + 1 => by
    simp only [tlen]
    split
    · rename_i h; rw [num_tlen n, num_succ, h]; simp
    · rfl
theorem tlen_eq {k : Nat} (hk : k ≤ n) (hz : ∀ j, k ≤ j → j < n → f j = 0) (ht : Trimmed f k) : tlen f n = k := by
  induction n with
  | zero => simp [tlen]; omega
  | succ n ih =>
    simp only [tlen]
    by_cases hkn : k = n + 1
    · subst hkn
      rcases ht with h | h
      · omega
      · rw [if_neg (by simpa using h)]
    · rw [if_pos (hz n (by omega) (by omega))]
      exact ih (by omega) (fun j h1 h2 => hz j h1 (by omega))
theorem tlen_congr : ∀ n, (∀ j, j < n → f j = f' j) → tlen f n = tlen f' n
  | 0, _ => rfl
  | n + 1, h => by simp only [tlen]; rw [h n (by omega), tlen_congr n (fun j hj => h j (by omega))]
theorem num_upd (i v : Nat) (h : n ≤ i) : num B (upd f i v) n = num B f n := num_congr n fun j hj => upd_ne _ _ _ (by omega)
theorem num_eq_zero (hB : 0 < B) : ∀ n, num B f n = 0 → ∀ j, j < n → f j = 0
  | 0, _, j, hj => absurd hj (by omega)
  | n + 1, h, j, hj => by
    rw [num_succ] at h
    have hp : 0 < B ^ n := Nat.pow_pos hB
    have h1 : num B f n = 0 := by omega
    have h2 : f n * B ^ n = 0 := by omega
    have h3 : f n = 0 := by
      rcases Nat.mul_eq_zero.1 h2 with h | h
      · exact h
      · omega
    by_cases hjn : j = n
    · subst hjn; exact h3
    · exact num_eq_zero hB n h1 j (by omega)
theorem tlen_zero_iff (hB : 0 < B) : tlen f n = 0 ↔ num B f n = 0 := by
  constructor
  · intro h; rw [← num_tlen n, h]; rfl
  · intro h
    exact tlen_eq (Nat.zero_le _) (fun j _ hj => num_eq_zero hB n h j hj) (.inl rfl)
end
end Go.Proofs.Ytldbnlmimjamnaa
