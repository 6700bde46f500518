/- The mathematics of solving: what a pivot leaves of the solutions. Nothing of the program is in here. -/
import Derived.Test.YtebdmidghidaeaaGreatPYh
import Derived.Test.YtebdmidghidaeaaGreatPYl
namespace Go.Proofs.YtebdmidghidaeaaGreat
open Go.RowKit
set_option linter.unusedVariables false

/-- The sum of the first n terms. -/
def sumF (t : Nat → Rat) : Nat → Rat
  | 0 => 0
  | n + 1 => sumF t n + t n
theorem dotF_sum (f x : Nat → Rat) : ∀ n, dotF f x n = sumF (fun k => f k * x k) n
  | 0 => rfl
  | n + 1 => by show dotF f x n + f n * x n = _; rw [dotF_sum f x n]; rfl
theorem sumF_congr {t s : Nat → Rat} : ∀ n, (∀ k, k < n → t k = s k) → sumF t n = sumF s n
  | 0, _ => rfl
  | n + 1, h => by show sumF t n + t n = sumF s n + s n; rw [sumF_congr n (fun k hk => h k (by omega)), h n (by omega)]
theorem sumF_add (t s : Nat → Rat) : ∀ n, sumF (fun k => t k + s k) n = sumF t n + sumF s n
  | 0 => by show (0 : Rat) = 0 + 0; rw [Rat.add_zero]
  | n + 1 => by
    show sumF (fun k => t k + s k) n + (t n + s n) = sumF t n + t n + (sumF s n + s n)
    rw [sumF_add t s n]; grind
theorem sumF_mul (t : Nat → Rat) (c : Rat) : ∀ n, sumF (fun k => t k * c) n = sumF t n * c
  | 0 => by show (0 : Rat) = 0 * c; rw [Rat.zero_mul]
  | n + 1 => by
    show sumF (fun k => t k * c) n + t n * c = (sumF t n + t n) * c
    rw [sumF_mul t c n]; grind
theorem sumF_one (k0 : Nat) (v : Rat) : ∀ n, sumF (fun k => if k = k0 then v else 0) n = if k0 < n then v else 0
  | 0 => by rw [if_neg (by omega)]; rfl
  | n + 1 => by
    show sumF (fun k => if k = k0 then v else 0) n + (if n = k0 then v else 0) = _
    rw [sumF_one k0 v n]
    by_cases h : n = k0
    · subst h; rw [if_neg (by omega), if_pos rfl, if_pos (by omega), Rat.zero_add]
    · rw [if_neg h, Rat.add_zero]
      by_cases h2 : k0 < n
      · rw [if_pos h2, if_pos (by omega)]
      · rw [if_neg h2, if_neg (by omega)]
theorem sumF_cons (t : Nat → Rat) : ∀ n, sumF t (n + 1) = t 0 + sumF (fun k => t (k + 1)) n
  | 0 => by show (0 : Rat) + t 0 = t 0 + 0; rw [Rat.zero_add, Rat.add_zero]
  | n + 1 => by
    show sumF t (n + 1) + t (n + 1) = t 0 + (sumF (fun k => t (k + 1)) n + t (n + 1))
    rw [sumF_cons t n]; grind
theorem dotF_cons (f x : Nat → Rat) (n : Nat) : dotF f x (n + 1) = f 0 * x 0 + dotF (fun l => f (l + 1)) (fun l => x (l + 1)) n := by
  rw [dotF_sum, dotF_sum, sumF_cons]
theorem dotF_lin (f g x : Nat → Rat) (c : Rat) (n : Nat) : dotF (fun l => f l + g l * c) x n = dotF f x n + dotF g x n * c := by
  rw [dotF_sum, dotF_sum, dotF_sum, ← sumF_mul, ← sumF_add]
  exact sumF_congr n fun k _ => by grind
theorem dotF_div (f x : Nat → Rat) (c : Rat) (n : Nat) : dotF (fun l => f l / c) x n = dotF f x n / c := by
  rw [dotF_sum, dotF_sum, Rat.div_def, ← sumF_mul]
  exact sumF_congr n fun k _ => by rw [Rat.div_def]; grind
theorem dotF_lin2 (f g x : Nat → Rat) (p c : Rat) (n : Nat) : dotF (fun l => f l + g l / p * c) x n = dotF f x n + dotF g x n / p * c := by
  have := dotF_lin f (fun l => g l / p) x c n
  rw [dotF_div] at this
  exact this
/-- What fulfils a table's rows. -/
def Sol (A : Nat → Nat → Rat) (b : Nat → Rat) (n : Nat) (x : Nat → Rat) : Prop := ∀ j, j < n → dotF (A j) x n = b j
def Uniq (A : Nat → Nat → Rat) (b : Nat → Rat) (n : Nat) (y : Nat → Rat) : Prop := Sol A b n y ∧ ∀ x, Sol A b n x → ∀ j, j < n → x j = y j
theorem Uniq.eq {A : Nat → Nat → Rat} {b : Nat → Rat} {n : Nat} {y z : Nat → Rat} (h : Uniq A b n y) (h' : Uniq A b n z) : ∀ j, j < n → y j = z j := h'.2 y h.1
/-- What is left to fulfil, i columns taken away. -/
def St (F : Nat → Nat → Rat) (n i : Nat) (x : Nat → Rat) : Prop := ∀ j, j < n → (if j < i then x j else 0) + dotF (F j) (fun l => x (i + l)) (n - i) = F j (n - i)
theorem st_init (A : Nat → Nat → Rat) (b : Nat → Rat) (n : Nat) (x : Nat → Rat) : St (fun j => appR (A j) n (fun _ => b j)) n 0 x ↔ Sol A b n x := by
  have h : ∀ j, (if j < 0 then x j else 0) + dotF (appR (A j) n (fun _ => b j)) (fun l => x (0 + l)) (n - 0) = appR (A j) n (fun _ => b j) (n - 0) ↔ dotF (A j) x n = b j := fun j => by
    rw [if_neg (by omega), Rat.zero_add, Nat.sub_zero]
    have e1 := appR_ge (A j) n (fun _ => b j) 0
    rw [Nat.add_zero] at e1
    rw [e1, dotF_congr (f' := A j) (g' := x) n (fun i hi => appR_lt _ _ _ hi) (fun i hi => by rw [Nat.zero_add])]
  exact ⟨fun g j hj => (h j).1 (g j hj), fun g j hj => (h j).2 (g j hj)⟩
/-- Two rows changed about. -/
def swapF {α : Type} (F : Nat → α) (i r : Nat) : Nat → α := fun j => if j = i then F r else if j = r then F i else F j
theorem swapF_i {α : Type} (F : Nat → α) (i r : Nat) : swapF F i r i = F r := by unfold swapF; rw [if_pos rfl]
theorem swapF_r {α : Type} (F : Nat → α) (i r : Nat) : swapF F i r r = F i := by unfold swapF; split <;> simp_all
theorem swapF_ne {α : Type} (F : Nat → α) {i r j : Nat} (h : j ≠ i) (h' : j ≠ r) : swapF F i r j = F j := by unfold swapF; rw [if_neg h, if_neg h']
theorem swapF_swapF {α : Type} (F : Nat → α) (i r : Nat) : swapF (swapF F i r) i r = F := by
  funext j
  by_cases h : j = i
  · subst h; rw [swapF_i, swapF_r]
  · by_cases h' : j = r
    · subst h'; rw [swapF_r, swapF_i]
    · rw [swapF_ne _ h h', swapF_ne _ h h']
theorem st_swap1 {F : Nat → Nat → Rat} {n i r : Nat} {x : Nat → Rat} (hi : i ≤ r) (hr : r < n) (h : St F n i x) : St (swapF F i r) n i x := fun j hj => by
  by_cases e : j = i
  · subst e
    rw [swapF_i]
    have := h r hr
    rw [if_neg (by omega)] at this ⊢
    exact this
  · by_cases e' : j = r
    · subst e'
      rw [swapF_r]
      have := h i (by omega)
      rw [if_neg (by omega)] at this ⊢
      exact this
    · rw [swapF_ne _ e e']; exact h j hj
theorem st_swap {F : Nat → Nat → Rat} {n i r : Nat} {x : Nat → Rat} (hi : i ≤ r) (hr : r < n) : St (swapF F i r) n i x ↔ St F n i x :=
  ⟨fun h => by have := st_swap1 hi hr h; rwa [swapF_swapF] at this, st_swap1 hi hr⟩
theorem row_i (p y s g : Rat) (hp : p ≠ 0) : y + s / p = g / p ↔ p * y + s = g := by
  constructor
  · intro h; grind
  · intro h; grind
theorem row_j (pre s gj g0 y si gi p : Rat) (hp : p ≠ 0) (h : p * y + si = gi) : (pre + (s + si / p * (0 - g0)) = gj + gi / p * (0 - g0)) ↔ pre + (g0 * y + s) = gj := by
  constructor
  · intro h2; grind
  · intro h2; grind
theorem st_step {G : Nat → Nat → Rat} {n i : Nat} {x : Nat → Rat} (hi : i < n) (hp : G i 0 ≠ 0) : St (fun j l => pivF G i 0 j (l + 1)) n (i + 1) x ↔ St G n i x := by
  obtain ⟨m, rfl⟩ : ∃ m, n = i + 1 + m := ⟨n - i - 1, by omega⟩
  have e1 : i + 1 + m - (i + 1) = m := by omega
  have e2 : i + 1 + m - i = m + 1 := by omega
  have hS : ∀ j, dotF (G j) (fun l => x (i + l)) (m + 1) = G j 0 * x i + dotF (fun l => G j (l + 1)) (fun l => x (i + 1 + l)) m := fun j => by
    rw [dotF_cons, Nat.add_zero]
    congr 1
    exact dotF_congr m (fun _ _ => rfl) (fun l _ => by congr 1; omega)
  have hI : ((if i < i + 1 then x i else 0) + dotF (fun l => pivF G i 0 i (l + 1)) (fun l => x (i + 1 + l)) m = pivF G i 0 i (m + 1)) ↔ ((if i < i then x i else 0) + dotF (G i) (fun l => x (i + l)) (m + 1) = G i (m + 1)) := by
    rw [if_pos (by omega), if_neg (by omega), Rat.zero_add, hS, pivF_at]
    show x i + dotF (fun l => G i (l + 1) / G i 0) _ m = G i (m + 1) / G i 0 ↔ _
    rw [dotF_div]
    exact row_i _ _ _ _ hp
  have hJ : ∀ j, j ≠ i → ((if i < i then x i else 0) + dotF (G i) (fun l => x (i + l)) (m + 1) = G i (m + 1)) → (((if j < i + 1 then x j else 0) + dotF (fun l => pivF G i 0 j (l + 1)) (fun l => x (i + 1 + l)) m = pivF G i 0 j (m + 1)) ↔ ((if j < i then x j else 0) + dotF (G j) (fun l => x (i + l)) (m + 1) = G j (m + 1))) := fun j hj h => by
    rw [if_neg (by omega), Rat.zero_add, hS] at h
    rw [hS, pivF_ne G hj]
    show (if j < i + 1 then x j else 0) + dotF (fun l => G j (l + 1) + G i (l + 1) / G i 0 * (0 - G j 0)) _ m = G j (m + 1) + G i (m + 1) / G i 0 * (0 - G j 0) ↔ _
    rw [dotF_lin2, show (if j < i + 1 then x j else 0) = (if j < i then x j else 0) from by
      by_cases hh : j < i
      · rw [if_pos hh, if_pos (by omega)]
      · rw [if_neg hh, if_neg (by omega)]]
    exact row_j _ _ _ _ _ _ _ _ hp h
  unfold St
  simp only [e1, e2]
  constructor
  · intro h
    have hi' := hI.1 (h i hi)
    intro j hj
    by_cases e : j = i
    · subst e; exact hi'
    · exact (hJ j e hi').1 (h j hj)
  · intro h
    intro j hj
    by_cases e : j = i
    · subst e; exact hI.2 (h _ hi)
    · exact (hJ j e (h i hi)).2 (h j hj)
theorem st_fail {F A : Nat → Nat → Rat} {b : Nat → Rat} {n i : Nat} (hi : i < n) (h0 : ∀ j, i ≤ j → j < n → F j 0 = 0) (hS : ∀ x, St F n i x ↔ Sol A b n x) : ¬ ∃ y, Uniq A b n y := by
  rintro ⟨y, hy, hu⟩
  have h1 := (hS y).2 hy
  have h2 : St F n i (fun j => if j < i then y j - F j 0 else if j = i then y i + 1 else y j) := fun j hj => by
    have h := h1 j hj
    obtain ⟨m, hm⟩ : ∃ m, n - i = m + 1 := ⟨n - i - 1, by omega⟩
    rw [hm, dotF_cons] at h ⊢
    rw [Nat.add_zero] at h
    rw [dotF_congr (f' := fun l => F j (l + 1)) (g' := fun l => y (i + (l + 1))) m (fun _ _ => rfl) (fun l _ => by (show (if i + (l + 1) < i then _ else if i + (l + 1) = i then _ else _) = _); rw [if_neg (by omega), if_neg (by omega)])]
    rw [Nat.add_zero]
    show (if j < i then (if j < i then y j - F j 0 else if j = i then y i + 1 else y j) else 0) + (F j 0 * (if i < i then y i - F i 0 else if i = i then y i + 1 else y i) + _) = _
    rw [if_neg (by omega : ¬ i < i), if_pos (rfl : i = i)]
    generalize dotF (fun l => F j (l + 1)) (fun l => y (i + (l + 1))) m = s at *
    by_cases hji : j < i
    · rw [if_pos hji, if_pos hji]
      rw [if_pos hji] at h
      grind
    · rw [if_neg hji]
      rw [if_neg hji] at h
      rw [h0 j (by omega) hj] at h ⊢
      grind
  have h3 := hu _ ((hS _).1 h2) i hi
  rw [if_neg (by omega), if_pos rfl] at h3
  grind
theorem st_end {F A : Nat → Nat → Rat} {b : Nat → Rat} {n : Nat} (hS : ∀ x, St F n n x ↔ Sol A b n x) : Uniq A b n (fun j => F j 0) := by
  have h : ∀ x, St F n n x ↔ ∀ j, j < n → x j = F j 0 := fun x => by
    unfold St
    rw [Nat.sub_self]
    constructor
    · intro g j hj
      have := g j hj
      rw [if_pos hj] at this
      rw [← this]
      show x j = x j + 0
      rw [Rat.add_zero]
    · intro g j hj
      rw [if_pos hj, g j hj]
      show F j 0 + 0 = F j 0
      rw [Rat.add_zero]
  exact ⟨(hS _).1 ((h _).2 fun j _ => rfl), fun x hx => (h x).1 ((hS x).2 hx)⟩
end Go.Proofs.YtebdmidghidaeaaGreat

/- Contracts of lin: Solve. -/
namespace Go.Proofs.YtebdmidghidaeaaGreat
open Go.RowKit
attribute [local go_sem ↓] Go.wp_at_zero Go.wp_at_succ
set_option linter.unusedVariables false

/-- How long numbers get. -/
def szF (k : Nat) : Nat → Nat
  | 0 => k
  | i + 1 => 4 * szF k i + 1
theorem szF_mono (k : Nat) : ∀ {i j : Nat}, i ≤ j → szF k i ≤ szF k j := fun {i j} h => by
  induction h with
  | refl => exact Nat.le_refl _
  | step _ ih => exact Nat.le_trans ih (by show _ ≤ 4 * _ + 1; omega)
theorem szF_pos {k : Nat} (h : 1 ≤ k) (i : Nat) : 1 ≤ szF k i := Nat.le_trans h (szF_mono k (Nat.zero_le i))
/-- How Solve ends. -/
def SolvePost (w w' : World) (e : Ending) (K m mb : Nat) (Ln : Nat → Nat) (F : Nat → Nat → Rat) (g : Nat → Rat) : Prop :=
  Below w.heap.size w w' ∧ ((∃ v y, e = .returned (.tuple #[v, .bool true]) ∧ m = mb ∧ (∀ i, i < m → Ln i = m) ∧ Uniq F g m y ∧ RowT true K w' v m y) ∨
    (e = .returned (.tuple #[.slice none 0 0, .bool false]) ∧ ¬ (m = mb ∧ (∀ i, i < m → Ln i = m) ∧ ∃ y, Uniq F g m y)))
theorem RowT.any0 {p p' : Bool} {k : Nat} {w : World} {v : Value} {f : Nat → Rat} (h : RowT p k w v 0 f) : RowT p' k w v 0 f := by
  obtain ⟨A, c, X, h0, h1, h2, h3, h4, h5⟩ := h
  exact ⟨A, c, X, h0, h1, h2, h3, fun i hi => absurd hi (by omega), h5⟩
/-- What Solve's loop carries. -/
def SvI (w wr : World) (k m : Nat) (F : Nat → Nat → Rat) (g : Nat → Rat) (i : Nat) (v : Value) : Prop :=
  ∃ rr Fi p, OwnT wr w.heap.size v m rr ∧ (∀ j, j < m → RowT p (szF k i) wr (rr j) (m - i + 1) (Fi j)) ∧ (0 < i → p = true) ∧ Below w.heap.size w wr ∧ ∀ x, St Fi m i x ↔ Sol F g m x
theorem swap_upd {α : Type} (r : Nat → α) (i j : Nat) : updR (updR r i (r j)) j (r i) = swapF r i j := by
  funext l
  unfold updR swapF
  by_cases h : l = j
  · subst h
    rw [if_pos rfl]
    by_cases h' : l = i
    · subst h'; rw [if_pos rfl]
    · rw [if_neg h', if_pos rfl]
  · rw [if_neg h, if_neg h]
theorem solveEnd {w w' : World} {m mb : Nat} {Ln : Nat → Nat} {F : Nat → Nat → Rat} {g : Nat → Rat} {K : Nat} (hb : Below w.heap.size w w') (h : ¬ (m = mb ∧ (∀ i, i < m → Ln i = m) ∧ ∃ y, Uniq F g m y)) : SolvePost w w' (.returned (.tuple #[.slice none 0 0, .bool false])) K m mb Ln F g := ⟨hb, .inr ⟨rfl, h⟩⟩

set_option maxRecDepth 100000 in
set_option maxHeartbeats 1000000 in
theorem lsolve_a {p p' : Bool} {k m mb : Nat} {Ln : Nat → Nat} {w : World} {vt vb : Value} {F : Nat → Nat → Rat} {g : Nat → Rat} (hT : TabQ p k w vt m Ln F) (hB : RowQ p' k w vb mb g) (hm : m ≠ mb) :
    Calls Tryz.prog 24 #[vt, vb] w fun e w' => SolvePost w w' e (szF k m) m mb Ln F g := by
  obtain ⟨A, ca, rfl, _, hn1⟩ := hT.len
  obtain ⟨B, cb, rfl, _, hn2⟩ := hB.len
  clear hT hB
  go_enter Tryz.func24, Tryz.ntmps24
  go_wp2_with fail
  refine Calls.mono (pairsR_no hn1 hn2 hm) ?_
  rintro e w1 ⟨rfl, rfl⟩
  go_wp2
  go_ret2
  exact solveEnd (Below.refl _ _) fun h => hm h.1

set_option maxRecDepth 100000 in
set_option maxHeartbeats 1000000 in
theorem lsolve_b {p p' : Bool} {k m : Nat} {Ln : Nat → Nat} {w : World} {vt vb : Value} {F : Nat → Nat → Rat} {g : Nat → Rat} (hT : TabQ p k w vt m Ln F) (hB : RowQ p' k w vb m g) (hL : ∀ i, i < m → Ln i ≤ 1000) (hS : ¬ ∀ i, i < m → Ln i = m) :
    Calls Tryz.prog 24 #[vt, vb] w fun e w' => SolvePost w w' e (szF k m) m m Ln F g := by
  obtain ⟨A, ca, rfl, _, hm⟩ := hT.len
  have HT := Lib.hid hT
  have HB := Lib.hid hB
  have HL := Lib.hid hL
  have HS := Lib.hid hS
  clear hT hB hL hS
  go_enter Tryz.func24, Tryz.ntmps24
  go_wp2_with fail
  refine Calls.mono (pairsR HT.out HB.out HL.out) ?_
  rintro e w1 ⟨v1, rr, rfl, _, _, hb⟩
  have HT1 := Lib.hid (HT.out.below hb)
  have HB1 := Lib.hid hb
  clear hb
  go_wp2_with fail
  refine Calls.mono (lrect HT1.out) ?_
  rintro e w2 ⟨⟨b, rfl, hb⟩, rfl⟩
  obtain rfl : b = false := by
    cases b
    · rfl
    · exact absurd (fun i hi => by have := hb.1 rfl i hi; omega) HS.out
  clear hb
  go_wp2
  go_ret2
  exact solveEnd HB1.out fun h => HS.out h.2.1

set_option maxRecDepth 100000 in
set_option maxHeartbeats 8000000 in
theorem lsolve_c {p p' : Bool} {k m : Nat} {Ln : Nat → Nat} {w : World} {vt vb : Value} {F : Nat → Nat → Rat} {g : Nat → Rat} (hT : TabQ p k w vt m Ln F) (hB : RowQ p' k w vb m g) (hL : ∀ i, i < m → Ln i ≤ 1000) (hS : ∀ i, i < m → Ln i = m) (h1 : 1 ≤ k) (hsz : szF k m ≤ 8001) :
    Calls Tryz.prog 24 #[vt, vb] w fun e w' => SolvePost w w' e (szF k m) m m Ln F g := by
  obtain ⟨A, ca, rfl, _, hm⟩ := hT.len
  have HT := Lib.hid hT
  have HB := Lib.hid hB
  have HL := Lib.hid hL
  have HS := Lib.hid hS
  clear hT hB hL hS
  go_enter Tryz.func24, Tryz.ntmps24
  go_wp2_with fail
  refine Calls.mono (pairsR HT.out HB.out HL.out) ?_
  rintro e w1 ⟨v1, rr, rfl, ho, hr, hb⟩
  have HT1 := Lib.hid (HT.out.below hb)
  have HI0 : Hid (SvI w w1 k m F g 0 v1) := ⟨rr, _, false, ho, fun j hj => by
    have := hr j hj
    rw [HS.out j hj] at this
    exact this, fun h => absurd h (by omega), hb, fun x => st_init F g m x⟩
  obtain ⟨V1, C1, rfl, _⟩ : ∃ A c, v1 = .slice A m c ∧ m ≤ c := by
    rcases ho.2 with ⟨rfl, rfl⟩ | ⟨g, cap, cur, rfl, _, _, h, _⟩
    · exact ⟨none, 0, rfl, Nat.le_refl _⟩
    · exact ⟨_, _, rfl, h⟩
  clear ho hr hb
  go_wp2_with fail
  refine Calls.mono (lrect HT1.out) ?_
  rintro e w2 ⟨⟨b, rfl, hb⟩, rfl⟩
  obtain rfl : b = true := hb.2 (fun i hi => by rw [HS.out i hi])
  clear hb HT1
  go_wp2
  go_loopw [6, 28] (fun v6 v28 wr => ∃ (i : Nat), v28 = .int .i64 (i : Nat) ∧ i ≤ m ∧ SvI w wr k m F g i v6) (fun _ v28 _ => m - (intOf v28).toNat)
  case atStart => exact ⟨0, rfl, Nat.zero_le _, HI0.out⟩
  case round =>
    obtain ⟨i, rfl, hi, rr, Fi, p, g1, g2, g3, g4, g5⟩ := hrel
    have HO := Lib.hid g1
    have HR := Lib.hid g2
    have HP := Lib.hid g3
    have HB' := Lib.hid g4
    have HS' := Lib.hid g5
    clear g1 g2 g3 g4 g5 HI0
    by_cases hlt : i < m
    · have hi0' : (0 : Int) ≤ (i : Int) := by omega
      have hik : (i : Int) < (m : Int) := by omega
      have hk1 : 1 ≤ szF k i := szF_pos h1 i
      have hk2 : 4 * szF k i + 1 ≤ 8001 := Nat.le_trans (szF_mono k (show i + 1 ≤ m from hlt)) hsz
      obtain ⟨G, C, rfl, hbg, hmc, _, _⟩ := OwnN.form HO.out (by omega)
      go_wp2_with fail
      refine Calls.mono (lleading (HO.out.tabQ hm HR.out) (by omega) hi (by omega)) ?_
      rintro e w3 ⟨hres, hb⟩
      have HO3 := Lib.hid (HO.out.below hb)
      have HR3 := Lib.hid (fun j hj => (HR.out j hj).below hb)
      have HB3 := Lib.hid (below_trans HB'.out hb)
      clear hb HO HR HB'
      rcases hres with ⟨r, rfl, hir, hrm, hF⟩ | ⟨rfl, hz⟩
      · have hr0 : (0 : Int) ≤ (r : Int) := by omega
        have hrm' : (r : Int) < (m : Int) := by omega
        have HF := Lib.hid hF
        have s0 := HO3.out.at_ hlt
        have s1 := OwnN.frozenAt HO3.out i
        have s2 := HO3.out.at_ hrm
        have s3 := OwnN.frozenAt HO3.out r
        obtain ⟨R1, D1, e1, _, _⟩ := (HR3.out i hlt).rowQ.len
        obtain ⟨R2, D2, e2, _, _⟩ := (HR3.out r hrm).rowQ.len
        rw [e1] at s0
        rw [e2] at s2
        have E1 := Lib.hid e1
        have E2 := Lib.hid e2
        clear hF e1 e2
        have HW : Hid (∀ W, W = (w3.setCell ⟨G, i, none⟩ (.slice R2 (m - i + 1) D2)).setCell ⟨G, r, none⟩ (.slice R1 (m - i + 1) D1) → OwnT W w.heap.size (.slice (some ⟨G, 0, none⟩) m C) m (swapF rr i r) ∧ (∀ j, j < m → RowT p (szF k i) W (swapF rr i r j) (m - i + 1) (swapF Fi i r j)) ∧ Below w.heap.size w W) := by
          intro W hW
          obtain ⟨a1, a2, a3⟩ := OwnT.set1 HO3.out hlt (u := .slice R2 (m - i + 1) D2) nu rfl
          obtain ⟨b1, b2, b3⟩ := OwnT.set1 a1 hrm (u := .slice R1 (m - i + 1) D1) nu rfl
          rw [← hW] at b1 b2 b3
          rw [← E2.out, ← E1.out, swap_upd] at b1
          refine ⟨b1, fun j hj => ?_, (HB3.out.trans a2.below).trans b2.below⟩
          have hz : ∀ l, l < m → RowT p (szF k i) W (rr l) (m - i + 1) (Fi l) := fun l hl => ((HR3.out l hl).fz a2).fz b2
          by_cases h : j = i
          · rw [h, swapF_i, swapF_i]; exact hz r hrm
          · by_cases h' : j = r
            · rw [h', swapF_r, swapF_r]; exact hz i hlt
            · rw [swapF_ne _ h h', swapF_ne _ h h']; exact hz j hj
        have HS3 : Hid (∀ x, St (swapF Fi i r) m i x ↔ Sol F g m x) := fun x => (st_swap hir hrm).trans (HS'.out x)
        have HF3 : Hid (swapF Fi i r i 0 ≠ 0) := by show _ ≠ _; rw [swapF_i]; exact HF.out
        clear HS' HF HB3 HR3 HO3
        by_cases hri : r = i
        · have hri' := hri.symm
          subst hri'
          have e12 := E1.out.symm.trans E2.out
          injection e12 with e1 _ e2
          subst e1
          subst e2
          go_wp2
          go_region
          obtain ⟨W, hW⟩ : ∃ W, W = (w3.setCell ⟨G, i, none⟩ (.slice R1 (m - i + 1) D1)).setCell ⟨G, i, none⟩ (.slice R1 (m - i + 1) D1) := ⟨_, rfl⟩
          rw [← hW]
          obtain ⟨a1, a2, a3⟩ := HW.out W hW
          have HO4 := Lib.hid (show OwnT W.drew w.heap.size (.slice (some ⟨G, 0, none⟩) m C) m (swapF rr i i) from a1.drew_)
          have HR4 := Lib.hid (fun j (hj : j < m) => (a2 j hj).drew_)
          have HB4 := Lib.hid a3.drew
          clear hW HW a1 a2 a3 s0 s1 s2 s3 E1 E2
          generalize W.drew = w4 at *
          go_wp2_with fail
          refine Calls.mono (lpivoted (c := 0) (K := 4 * szF k i + 1) (HO4.out.tabQ hm HR4.out) hlt (Nat.succ_pos _) HF3.out (by omega) hk1 (by omega)) ?_
          rintro e w5 ⟨v5, r5, rfl, b1, b2, b3⟩
          have HO5 := Lib.hid (OwnN.lower b1 HB4.out.size)
          have HR5 := Lib.hid b2
          have HB5 := Lib.hid (below_trans HB4.out b3)
          clear b1 b2 b3 HO4 HR4 HB4
          go_wp2_with fail
          refine Calls.mono (lbehind (n := m - i) HO5.out HR5.out hm) ?_
          rintro e w6 ⟨r6, rfl, b1, b2, b3⟩
          have HINV : Hid (SvI w w6 k m F g (i + 1) v5) := ⟨r6, _, true, b1, fun j hj => by
            have := b2 j hj
            rw [show m - i = m - (i + 1) + 1 from by omega] at this
            exact this, fun _ => rfl, HB5.out.trans b3.below, fun x => (st_step hlt HF3.out).trans (HS3.out x)⟩
          clear b1 b2 b3 HO5 HR5 HB5 HS3 HF3
          go_wp2
          go_roundw
          case rel => exact ⟨i + 1, by go_num, by omega, HINV.out⟩
          case measure => simp [intOf]; omega
        · have hne : ((⟨G, i, none⟩ : Addr) ≠ ⟨G, r, none⟩) := fun e => hri (by injection e with _ e _; exact e.symm)
          have s4 := (World.cell?_setCell_other (w := w3) (v := .slice R2 (m - i + 1) D2) (a := ⟨G, i, none⟩) (b := ⟨G, r, none⟩) hne).trans s2
          go_wp2
          go_region
          obtain ⟨W, hW⟩ : ∃ W, W = (w3.setCell ⟨G, i, none⟩ (.slice R2 (m - i + 1) D2)).setCell ⟨G, r, none⟩ (.slice R1 (m - i + 1) D1) := ⟨_, rfl⟩
          rw [← hW]
          obtain ⟨a1, a2, a3⟩ := HW.out W hW
          have HO4 := Lib.hid (show OwnT W.drew w.heap.size (.slice (some ⟨G, 0, none⟩) m C) m (swapF rr i r) from a1.drew_)
          have HR4 := Lib.hid (fun j (hj : j < m) => (a2 j hj).drew_)
          have HB4 := Lib.hid a3.drew
          clear hW HW a1 a2 a3 s0 s1 s2 s3 E1 E2 s4
          generalize W.drew = w4 at *
          go_wp2_with fail
          refine Calls.mono (lpivoted (c := 0) (K := 4 * szF k i + 1) (HO4.out.tabQ hm HR4.out) hlt (Nat.succ_pos _) HF3.out (by omega) hk1 (by omega)) ?_
          rintro e w5 ⟨v5, r5, rfl, b1, b2, b3⟩
          have HO5 := Lib.hid (OwnN.lower b1 HB4.out.size)
          have HR5 := Lib.hid b2
          have HB5 := Lib.hid (below_trans HB4.out b3)
          clear b1 b2 b3 HO4 HR4 HB4
          go_wp2_with fail
          refine Calls.mono (lbehind (n := m - i) HO5.out HR5.out hm) ?_
          rintro e w6 ⟨r6, rfl, b1, b2, b3⟩
          have HINV : Hid (SvI w w6 k m F g (i + 1) v5) := ⟨r6, _, true, b1, fun j hj => by
            have := b2 j hj
            rw [show m - i = m - (i + 1) + 1 from by omega] at this
            exact this, fun _ => rfl, HB5.out.trans b3.below, fun x => (st_step hlt HF3.out).trans (HS3.out x)⟩
          clear b1 b2 b3 HO5 HR5 HB5 HS3 HF3
          go_wp2
          go_roundw
          case rel => exact ⟨i + 1, by go_num, by omega, HINV.out⟩
          case measure => simp [intOf]; omega
      · have HZ := Lib.hid hz
        clear hz
        go_wp2
        go_ret2
        exact solveEnd HB3.out fun h => st_fail hlt HZ.out HS'.out h.2.2
    · obtain rfl : i = m := by omega
      have hT := HO.out.tabQ hm HR.out
      rw [Nat.sub_self] at hT
      have HT' := Lib.hid hT
      clear hT
      go_wp2_with fail
      refine Calls.mono (lconcat HT'.out) ?_
      rintro e w3 ⟨v, rfl, hv, hb⟩
      have HV : Hid (RowT true (szF k i) w3 v i (fun j => Fi j 0)) := by
        show RowT true _ _ _ _ _
        by_cases h0 : i = 0
        · subst h0; exact hv.any0
        · rw [HP.out (by omega)] at hv; exact hv
      have HB3 := Lib.hid (below_trans HB'.out hb)
      clear hv hb
      go_wp2
      go_ret2
      exact ⟨HB3.out, .inl ⟨_, _, rfl, rfl, HS.out, st_end HS'.out, HV.out⟩⟩

theorem lsolve {p p' : Bool} {k m mb : Nat} {Ln : Nat → Nat} {w : World} {vt vb : Value} {F : Nat → Nat → Rat} {g : Nat → Rat} (hT : TabQ p k w vt m Ln F) (hB : RowQ p' k w vb mb g) (hL : ∀ i, i < m → Ln i ≤ 1000) (h1 : 1 ≤ k) (hsz : szF k m ≤ 8001) :
    Calls Tryz.prog 24 #[vt, vb] w fun e w' => SolvePost w w' e (szF k m) m mb Ln F g := by
  by_cases hm : m = mb
  · subst hm
    by_cases hS : ∀ i, i < m → Ln i = m
    · exact lsolve_c hT hB hL hS h1 hsz
    · exact lsolve_b hT hB hL hS
  · exact lsolve_a hT hB hm
end Go.Proofs.YtebdmidghidaeaaGreat
