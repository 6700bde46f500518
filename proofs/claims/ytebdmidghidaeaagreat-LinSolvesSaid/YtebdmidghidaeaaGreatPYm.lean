/- The mathematics of solving: what a pivot leaves of the solutions. Nothing of the program is in here. -/
import Derived.Test.YtebdmidghidaeaaGreatPYh
namespace Go.Proofs.YtebdmidghidaeaaGreat
open Go.RowKit
set_option linter.unusedVariables false

/-- The sum of the first n terms. -/
def sumF (t : Nat → Rat) : Nat → Rat
  | 0 => 0
  | n + 1 => sumF t n + t n
theorem dotF_sum (f x : Nat → Rat) : ∀ n, dotF f x n = sumF (fun k => f k * x k) n
  | 0 => rfl
  | n + 1 => by show dotF f x n + f n * x n = _; rw [dotF_sum f x n]; rfl
theorem sumF_congr {t s : Nat → Rat} : ∀ n, (∀ k, k < n → t k = s k) → sumF t n = sumF s n
  | 0, _ => rfl
  | n + 1, h => by show sumF t n + t n = sumF s n + s n; rw [sumF_congr n (fun k hk => h k (by omega)), h n (by omega)]
theorem sumF_add (t s : Nat → Rat) : ∀ n, sumF (fun k => t k + s k) n = sumF t n + sumF s n
  | 0 => by show (0 : Rat) = 0 + 0; rw [Rat.add_zero]
  | n + 1 => by
    show sumF (fun k => t k + s k) n + (t n + s n) = sumF t n + t n + (sumF s n + s n)
    rw [sumF_add t s n]; grind
theorem sumF_mul (t : Nat → Rat) (c : Rat) : ∀ n, sumF (fun k => t k * c) n = sumF t n * c
  | 0 => by show (0 : Rat) = 0 * c; rw [Rat.zero_mul]
  | n + 1 => by
    show sumF (fun k => t k * c) n + t n * c = (sumF t n + t n) * c
    rw [sumF_mul t c n]; grind
theorem sumF_one (k0 : Nat) (v : Rat) : ∀ n, sumF (fun k => if k = k0 then v else 0) n = if k0 < n then v else 0
  | 0 => by rw [if_neg (by omega)]; rfl
  | n + 1 => by
    show sumF (fun k => if k = k0 then v else 0) n + (if n = k0 then v else 0) = _
    rw [sumF_one k0 v n]
    by_cases h : n = k0
    · subst h; rw [if_neg (by omega), if_pos rfl, if_pos (by omega), Rat.zero_add]
    · rw [if_neg h, Rat.add_zero]
      by_cases h2 : k0 < n
      · rw [if_pos h2, if_pos (by omega)]
      · rw [if_neg h2, if_neg (by omega)]
theorem sumF_zero (t : Nat → Rat) (n : Nat) (h : ∀ k, k < n → t k = 0) : sumF t n = 0 := by
  have := sumF_one n 0 n
  rw [if_neg (by omega)] at this
  rw [sumF_congr n (s := fun k => if k = n then 0 else 0) (fun k hk => by rw [h k hk]; split <;> rfl)]
  exact this
theorem sumF_cons (t : Nat → Rat) : ∀ n, sumF t (n + 1) = t 0 + sumF (fun k => t (k + 1)) n
  | 0 => by show (0 : Rat) + t 0 = t 0 + 0; rw [Rat.zero_add, Rat.add_zero]
  | n + 1 => by
    show sumF t (n + 1) + t (n + 1) = t 0 + (sumF (fun k => t (k + 1)) n + t (n + 1))
    rw [sumF_cons t n]; grind
theorem dotF_cons (f x : Nat → Rat) (n : Nat) : dotF f x (n + 1) = f 0 * x 0 + dotF (fun l => f (l + 1)) (fun l => x (l + 1)) n := by
  rw [dotF_sum, dotF_sum, sumF_cons]
theorem dotF_lin (f g x : Nat → Rat) (c : Rat) (n : Nat) : dotF (fun l => f l + g l * c) x n = dotF f x n + dotF g x n * c := by
  rw [dotF_sum, dotF_sum, dotF_sum, ← sumF_mul, ← sumF_add]
  exact sumF_congr n fun k _ => by grind
theorem dotF_div (f x : Nat → Rat) (c : Rat) (n : Nat) : dotF (fun l => f l / c) x n = dotF f x n / c := by
  rw [dotF_sum, dotF_sum, Rat.div_def, ← sumF_mul]
  exact sumF_congr n fun k _ => by rw [Rat.div_def]; grind
theorem dotF_lin2 (f g x : Nat → Rat) (p c : Rat) (n : Nat) : dotF (fun l => f l + g l / p * c) x n = dotF f x n + dotF g x n / p * c := by
  have := dotF_lin f (fun l => g l / p) x c n
  rw [dotF_div] at this
  exact this
/-- What fulfils a table's rows. -/
def Sol (A : Nat → Nat → Rat) (b : Nat → Rat) (n : Nat) (x : Nat → Rat) : Prop := ∀ j, j < n → dotF (A j) x n = b j
def Uniq (A : Nat → Nat → Rat) (b : Nat → Rat) (n : Nat) (y : Nat → Rat) : Prop := Sol A b n y ∧ ∀ x, Sol A b n x → ∀ j, j < n → x j = y j
theorem Uniq.eq {A : Nat → Nat → Rat} {b : Nat → Rat} {n : Nat} {y z : Nat → Rat} (h : Uniq A b n y) (h' : Uniq A b n z) : ∀ j, j < n → y j = z j := h'.2 y h.1
/-- What is left to fulfil, i columns taken away. -/
def St (F : Nat → Nat → Rat) (n i : Nat) (x : Nat → Rat) : Prop := ∀ j, j < n → (if j < i then x j else 0) + dotF (F j) (fun l => x (i + l)) (n - i) = F j (n - i)
theorem st_init (A : Nat → Nat → Rat) (b : Nat → Rat) (n : Nat) (x : Nat → Rat) : St (fun j => appR (A j) n (fun _ => b j)) n 0 x ↔ Sol A b n x := by
  have h : ∀ j, (if j < 0 then x j else 0) + dotF (appR (A j) n (fun _ => b j)) (fun l => x (0 + l)) (n - 0) = appR (A j) n (fun _ => b j) (n - 0) ↔ dotF (A j) x n = b j := fun j => by
    rw [if_neg (by omega), Rat.zero_add, Nat.sub_zero]
    have e1 := appR_ge (A j) n (fun _ => b j) 0
    rw [Nat.add_zero] at e1
    rw [e1, dotF_congr (f' := A j) (g' := x) n (fun i hi => appR_lt _ _ _ hi) (fun i hi => by rw [Nat.zero_add])]
  exact ⟨fun g j hj => (h j).1 (g j hj), fun g j hj => (h j).2 (g j hj)⟩
/-- Two rows changed about. -/
def swapF {α : Type} (F : Nat → α) (i r : Nat) : Nat → α := fun j => if j = i then F r else if j = r then F i else F j
theorem swapF_i {α : Type} (F : Nat → α) (i r : Nat) : swapF F i r i = F r := by unfold swapF; rw [if_pos rfl]
theorem swapF_r {α : Type} (F : Nat → α) (i r : Nat) : swapF F i r r = F i := by unfold swapF; split <;> simp_all
theorem swapF_ne {α : Type} (F : Nat → α) {i r j : Nat} (h : j ≠ i) (h' : j ≠ r) : swapF F i r j = F j := by unfold swapF; rw [if_neg h, if_neg h']
theorem swapF_swapF {α : Type} (F : Nat → α) (i r : Nat) : swapF (swapF F i r) i r = F := by
  funext j
  by_cases h : j = i
  · subst h; rw [swapF_i, swapF_r]
  · by_cases h' : j = r
    · subst h'; rw [swapF_r, swapF_i]
    · rw [swapF_ne _ h h', swapF_ne _ h h']
theorem st_swap1 {F : Nat → Nat → Rat} {n i r : Nat} {x : Nat → Rat} (hi : i ≤ r) (hr : r < n) (h : St F n i x) : St (swapF F i r) n i x := fun j hj => by
  by_cases e : j = i
  · subst e
    rw [swapF_i]
    have := h r hr
    rw [if_neg (by omega)] at this ⊢
    exact this
  · by_cases e' : j = r
    · subst e'
      rw [swapF_r]
      have := h i (by omega)
      rw [if_neg (by omega)] at this ⊢
      exact this
    · rw [swapF_ne _ e e']; exact h j hj
theorem st_swap {F : Nat → Nat → Rat} {n i r : Nat} {x : Nat → Rat} (hi : i ≤ r) (hr : r < n) : St (swapF F i r) n i x ↔ St F n i x :=
  ⟨fun h => by have := st_swap1 hi hr h; rwa [swapF_swapF] at this, st_swap1 hi hr⟩
theorem row_i (p y s g : Rat) (hp : p ≠ 0) : y + s / p = g / p ↔ p * y + s = g := by
  constructor
  · intro h; grind
  · intro h; grind
theorem row_j (pre s gj g0 y si gi p : Rat) (hp : p ≠ 0) (h : p * y + si = gi) : (pre + (s + si / p * (0 - g0)) = gj + gi / p * (0 - g0)) ↔ pre + (g0 * y + s) = gj := by
  constructor
  · intro h2; grind
  · intro h2; grind
theorem st_step {G : Nat → Nat → Rat} {n i : Nat} {x : Nat → Rat} (hi : i < n) (hp : G i 0 ≠ 0) : St (fun j l => pivF G i 0 j (l + 1)) n (i + 1) x ↔ St G n i x := by
  obtain ⟨m, rfl⟩ : ∃ m, n = i + 1 + m := ⟨n - i - 1, by omega⟩
  have e1 : i + 1 + m - (i + 1) = m := by omega
  have e2 : i + 1 + m - i = m + 1 := by omega
  have hS : ∀ j, dotF (G j) (fun l => x (i + l)) (m + 1) = G j 0 * x i + dotF (fun l => G j (l + 1)) (fun l => x (i + 1 + l)) m := fun j => by
    rw [dotF_cons, Nat.add_zero]
    congr 1
    exact dotF_congr m (fun _ _ => rfl) (fun l _ => by congr 1; omega)
  have hI : ((if i < i + 1 then x i else 0) + dotF (fun l => pivF G i 0 i (l + 1)) (fun l => x (i + 1 + l)) m = pivF G i 0 i (m + 1)) ↔ ((if i < i then x i else 0) + dotF (G i) (fun l => x (i + l)) (m + 1) = G i (m + 1)) := by
    rw [if_pos (by omega), if_neg (by omega), Rat.zero_add, hS, pivF_at]
    show x i + dotF (fun l => G i (l + 1) / G i 0) _ m = G i (m + 1) / G i 0 ↔ _
    rw [dotF_div]
    exact row_i _ _ _ _ hp
  have hJ : ∀ j, j ≠ i → ((if i < i then x i else 0) + dotF (G i) (fun l => x (i + l)) (m + 1) = G i (m + 1)) → (((if j < i + 1 then x j else 0) + dotF (fun l => pivF G i 0 j (l + 1)) (fun l => x (i + 1 + l)) m = pivF G i 0 j (m + 1)) ↔ ((if j < i then x j else 0) + dotF (G j) (fun l => x (i + l)) (m + 1) = G j (m + 1))) := fun j hj h => by
    rw [if_neg (by omega), Rat.zero_add, hS] at h
    rw [hS, pivF_ne G hj]
    show (if j < i + 1 then x j else 0) + dotF (fun l => G j (l + 1) + G i (l + 1) / G i 0 * (0 - G j 0)) _ m = G j (m + 1) + G i (m + 1) / G i 0 * (0 - G j 0) ↔ _
    rw [dotF_lin2, show (if j < i + 1 then x j else 0) = (if j < i then x j else 0) from by
      by_cases hh : j < i
      · rw [if_pos hh, if_pos (by omega)]
      · rw [if_neg hh, if_neg (by omega)]]
    exact row_j _ _ _ _ _ _ _ _ hp h
  unfold St
  simp only [e1, e2]
  constructor
  · intro h
    have hi' := hI.1 (h i hi)
    intro j hj
    by_cases e : j = i
    · subst e; exact hi'
    · exact (hJ j e hi').1 (h j hj)
  · intro h
    intro j hj
    by_cases e : j = i
    · subst e; exact hI.2 (h _ hi)
    · exact (hJ j e (h i hi)).2 (h j hj)
theorem st_fail {F A : Nat → Nat → Rat} {b : Nat → Rat} {n i : Nat} (hi : i < n) (h0 : ∀ j, i ≤ j → j < n → F j 0 = 0) (hS : ∀ x, St F n i x ↔ Sol A b n x) : ¬ ∃ y, Uniq A b n y := by
  rintro ⟨y, hy, hu⟩
  have h1 := (hS y).2 hy
  have h2 : St F n i (fun j => if j < i then y j - F j 0 else if j = i then y i + 1 else y j) := fun j hj => by
    have h := h1 j hj
    obtain ⟨m, hm⟩ : ∃ m, n - i = m + 1 := ⟨n - i - 1, by omega⟩
    rw [hm, dotF_cons] at h ⊢
    rw [Nat.add_zero] at h
    rw [dotF_congr (f' := fun l => F j (l + 1)) (g' := fun l => y (i + (l + 1))) m (fun _ _ => rfl) (fun l _ => by (show (if i + (l + 1) < i then _ else if i + (l + 1) = i then _ else _) = _); rw [if_neg (by omega), if_neg (by omega)])]
    rw [Nat.add_zero]
    show (if j < i then (if j < i then y j - F j 0 else if j = i then y i + 1 else y j) else 0) + (F j 0 * (if i < i then y i - F i 0 else if i = i then y i + 1 else y i) + _) = _
    rw [if_neg (by omega : ¬ i < i), if_pos (rfl : i = i)]
    generalize dotF (fun l => F j (l + 1)) (fun l => y (i + (l + 1))) m = s at *
    by_cases hji : j < i
    · rw [if_pos hji, if_pos hji]
      rw [if_pos hji] at h
      grind
    · rw [if_neg hji]
      rw [if_neg hji] at h
      rw [h0 j (by omega) hj] at h ⊢
      grind
  have h3 := hu _ ((hS _).1 h2) i hi
  rw [if_neg (by omega), if_pos rfl] at h3
  grind
theorem st_end {F A : Nat → Nat → Rat} {b : Nat → Rat} {n : Nat} (hS : ∀ x, St F n n x ↔ Sol A b n x) : Uniq A b n (fun j => F j 0) := by
  have h : ∀ x, St F n n x ↔ ∀ j, j < n → x j = F j 0 := fun x => by
    unfold St
    rw [Nat.sub_self]
    constructor
    · intro g j hj
      have := g j hj
      rw [if_pos hj] at this
      rw [← this]
      show x j = x j + 0
      rw [Rat.add_zero]
    · intro g j hj
      rw [if_pos hj, g j hj]
      show F j 0 + 0 = F j 0
      rw [Rat.add_zero]
  exact ⟨(hS _).1 ((h _).2 fun j _ => rfl), fun x hx => (h x).1 ((hS x).2 hx)⟩
/-- The same of the document's way: whole tables, the last column what rows come to. -/
def SolF (W : Nat → Nat → Rat) (n : Nat) (x : Nat → Rat) : Prop := ∀ j, j < n → dotF (W j) x n = W j n
theorem solF_init (A : Nat → Nat → Rat) (b : Nat → Rat) (n : Nat) (x : Nat → Rat) : SolF (fun j => appR (A j) n (fun _ => b j)) n x ↔ Sol A b n x := by
  have h : ∀ j, dotF (appR (A j) n (fun _ => b j)) x n = appR (A j) n (fun _ => b j) n ↔ dotF (A j) x n = b j := fun j => by
    have e1 := appR_ge (A j) n (fun _ => b j) 0
    rw [Nat.add_zero] at e1
    rw [e1, dotF_congr (f' := A j) (g' := x) n (fun i hi => appR_lt _ _ _ hi) (fun i hi => rfl)]
  exact ⟨fun g j hj => (h j).1 (g j hj), fun g j hj => (h j).2 (g j hj)⟩
theorem rrow_i (p s g : Rat) (hp : p ≠ 0) : s / p = g / p ↔ s = g := by
  constructor
  · intro h; grind
  · intro h; grind
theorem rrow_j (s gj g0 si gi p : Rat) (hp : p ≠ 0) (h : si = gi) : (s + si / p * (0 - g0) = gj + gi / p * (0 - g0)) ↔ s = gj := by
  subst h
  constructor
  · intro h2; grind
  · intro h2; grind
theorem solF_step {W : Nat → Nat → Rat} {n r c : Nat} {x : Nat → Rat} (hr : r < n) (hp : W r c ≠ 0) : SolF (pivF W r c) n x ↔ SolF W n x := by
  have hI : dotF (pivF W r c r) x n = pivF W r c r n ↔ dotF (W r) x n = W r n := by
    rw [pivF_at, dotF_div]; exact rrow_i _ _ _ hp
  have hJ : ∀ j, j ≠ r → dotF (W r) x n = W r n → (dotF (pivF W r c j) x n = pivF W r c j n ↔ dotF (W j) x n = W j n) := fun j hj h => by
    rw [pivF_ne W hj, dotF_lin2]; exact rrow_j _ _ _ _ _ _ hp h
  constructor
  · intro h j hj
    have hr' := hI.1 (h r hr)
    by_cases e : j = r
    · subst e; exact hr'
    · exact (hJ j e hr').1 (h j hj)
  · intro h j hj
    by_cases e : j = r
    · subst e; exact hI.2 (h _ hr)
    · exact (hJ j e (h r hr)).2 (h j hj)
/-- Columns that are 0, but 1 at a row of their own. -/
def Un (W : Nat → Nat → Rat) (n c : Nat) (u : Nat → Nat) : Prop := (∀ k, k < c → u k < n ∧ ∀ j, j < n → W j k = if j = u k then 1 else 0) ∧ ∀ k l, k < c → l < c → u k = u l → k = l
theorem un_step {W : Nat → Nat → Rat} {n c r : Nat} {u : Nat → Nat} (h : Un W n c u) (hr : r < n) (hn : ∀ k, k < c → u k ≠ r) (hp : W r c ≠ 0) : Un (pivF W r c) n (c + 1) (updR u c r) := by
  refine ⟨fun k hk => ?_, fun k l hk hl e => ?_⟩
  · by_cases e : k = c
    · subst e
      rw [updR_at]
      refine ⟨hr, fun j hj => ?_⟩
      by_cases e : j = r
      · subst e; rw [pivF_at, if_pos rfl]; show W j k / W j k = 1; grind
      · rw [pivF_ne W e, if_neg e]; show W j k + W r k / W r k * (0 - W j k) = 0; grind
    · rw [updR_ne _ _ e]
      obtain ⟨h1, h2⟩ := h.1 k (by omega)
      have h3 := h2 r hr
      rw [if_neg (fun e => hn k (by omega) e.symm)] at h3
      refine ⟨h1, fun j hj => ?_⟩
      by_cases e : j = r
      · subst e
        rw [pivF_at, if_neg (fun e => hn k (by omega) e.symm)]
        show W j k / W j c = 0
        rw [h3]; grind
      · rw [pivF_ne W e, ← h2 j hj]
        show W j k + W r k / W r c * (0 - W j c) = W j k
        rw [h3]; grind
  · by_cases e1 : k = c
    · by_cases e2 : l = c
      · omega
      · subst e1
        rw [updR_at, updR_ne _ _ e2] at e
        exact absurd e.symm (hn l (by omega))
    · by_cases e2 : l = c
      · subst e2
        rw [updR_at, updR_ne _ _ e1] at e
        exact absurd e (hn k (by omega))
      · rw [updR_ne _ _ e1, updR_ne _ _ e2] at e
        exact h.2 k l (by omega) (by omega) e
theorem un_fail {W A : Nat → Nat → Rat} {b : Nat → Rat} {n c : Nat} {u : Nat → Nat} (h : Un W n c u) (hc : c < n) (h0 : ∀ j, j < n → (∀ k, k < c → u k ≠ j) → W j c = 0) (hS : ∀ x, SolF W n x ↔ Sol A b n x) : ¬ ∃ y, Uniq A b n y := by
  rintro ⟨y, hy, hu⟩
  have h1 := (hS y).2 hy
  have h2 : SolF W n (fun k => y k + (if k < c then 0 - W (u k) c else if k = c then 1 else 0)) := fun j hj => by
    rw [← h1 j hj, dotF_sum, dotF_sum]
    have e : ∀ k, W j k * (y k + (if k < c then 0 - W (u k) c else if k = c then 1 else 0)) = W j k * y k + W j k * (if k < c then 0 - W (u k) c else if k = c then 1 else 0) := fun k => by grind
    rw [sumF_congr n (fun k _ => e k), sumF_add]
    have z : sumF (fun k => W j k * (if k < c then 0 - W (u k) c else if k = c then 1 else 0)) n = 0 := by
      by_cases ht : ∃ k0, k0 < c ∧ u k0 = j
      · obtain ⟨k0, hk0, rfl⟩ := ht
        rw [sumF_congr n (s := fun k => (if k = k0 then 0 - W (u k0) c else 0) + (if k = c then W (u k0) c else 0)) (fun k hk => ?_), sumF_add, sumF_one, sumF_one, if_pos (by omega), if_pos hc]
        · grind
        · by_cases e1 : k < c
          · rw [if_pos e1, (h.1 k e1).2 _ hj, if_neg (by omega : ¬ k = c)]
            by_cases e2 : k = k0
            · subst e2; rw [if_pos rfl, if_pos rfl]; grind
            · rw [if_neg (fun e => e2 (h.2 k k0 e1 hk0 e.symm)), if_neg e2]; grind
          · rw [if_neg e1, if_neg (by omega : ¬ k = k0)]
            by_cases e2 : k = c
            · subst e2; rw [if_pos rfl, if_pos rfl]; grind
            · rw [if_neg e2, if_neg e2]; grind
      · have hj0 := h0 j hj (fun k hk e => ht ⟨k, hk, e⟩)
        refine sumF_zero _ _ fun k hk => ?_
        by_cases e1 : k < c
        · rw [(h.1 k e1).2 j hj, if_neg (fun e => ht ⟨k, e1, e.symm⟩), Rat.zero_mul]
        · rw [if_neg e1]
          by_cases e2 : k = c
          · subst e2; rw [hj0, Rat.zero_mul]
          · rw [if_neg e2, Rat.mul_zero]
    rw [z, Rat.add_zero]
  have h3 := hu _ ((hS _).1 h2) c hc
  rw [if_neg (by omega), if_pos rfl] at h3
  grind
theorem inj_surj : ∀ (n : Nat) (u : Nat → Nat), (∀ i, i < n → u i < n) → (∀ i j, i < n → j < n → u i = u j → i = j) → ∀ j, j < n → ∃ i, i < n ∧ u i = j
  | 0, _, _, _, j, hj => absurd hj (by omega)
  | n + 1, u, h1, h2, j, hj => by
    have hm := h1 n (by omega)
    by_cases hjm : j = u n
    · exact ⟨n, by omega, hjm.symm⟩
    · obtain ⟨hv1, hv2⟩ : (∀ i, i < n → (if u i = n then u n else u i) < n) ∧ (∀ i j, i < n → j < n → (if u i = n then u n else u i) = (if u j = n then u n else u j) → i = j) := by
        have ne : ∀ i, i < n → u i ≠ u n := fun i hi e => by have := h2 i n (by omega) (by omega) e; omega
        constructor
        · intro i hi
          have := h1 i (by omega)
          have := ne i hi
          split <;> omega
        · intro i j hi hj e
          have := ne i hi
          have := ne j hj
          have key := h2 i j (by omega) (by omega)
          split at e <;> split at e <;> omega
      by_cases hjn : j = n
      · subst hjn
        obtain ⟨i, hi, e⟩ := inj_surj j _ hv1 hv2 (u j) (by omega)
        refine ⟨i, by omega, ?_⟩
        split at e
        · assumption
        · have := h2 i j (by omega) (by omega) e; omega
      · obtain ⟨i, hi, e⟩ := inj_surj n _ hv1 hv2 j (by omega)
        refine ⟨i, by omega, ?_⟩
        split at e
        · exact absurd e.symm hjm
        · exact e
theorem un_end {W A : Nat → Nat → Rat} {b : Nat → Rat} {n : Nat} {u : Nat → Nat} (h : Un W n n u) (hS : ∀ x, SolF W n x ↔ Sol A b n x) : Uniq A b n (fun c => W (u c) n) := by
  have key : ∀ x c, c < n → dotF (W (u c)) x n = x c := fun x c hc => by
    rw [dotF_sum, sumF_congr n (s := fun k => if k = c then x c else 0) (fun k hk => ?_), sumF_one, if_pos hc]
    rw [(h.1 k hk).2 _ (h.1 c hc).1]
    by_cases e : k = c
    · subst e; rw [if_pos rfl, if_pos rfl, Rat.one_mul]
    · rw [if_neg (fun e' => e (h.2 k c hk hc e'.symm)), if_neg e, Rat.zero_mul]
  refine ⟨(hS _).1 fun j hj => ?_, fun x hx c hc => ?_⟩
  · obtain ⟨c, hc, rfl⟩ := inj_surj n u (fun i hi => (h.1 i hi).1) (fun i j hi hj e => h.2 i j hi hj e) j hj
    exact key _ c hc
  · have := (hS x).2 hx (u c) (h.1 c hc).1
    rw [key x c hc] at this
    exact this
end Go.Proofs.YtebdmidghidaeaaGreat
