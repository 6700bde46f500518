/- Contracts of whole: Add, Sub, Mul. -/
import Derived.Test.YtebdmidghidaeaaGreatPWa
import Derived.Deep.RegionHeld3
import Derived.Deep.DrawnRows
namespace Go.Proofs.YtebdmidghidaeaaGreat
open Go.RowKit
attribute [local go_sem ↓] Go.wp_at_zero Go.wp_at_succ

theorem sg_add (b : Bool) (N M : Nat) : sg b N + sg b M = sg b (N + M) := by unfold sg; cases b <;> simp <;> omega
theorem sg_sub_ge (b : Bool) {N M : Nat} (h : M ≤ N) : sg b N + sg (!b) M = sg b (N - M) := by unfold sg; cases b <;> simp <;> omega
theorem sg_sub_lt (b : Bool) {N M : Nat} (h : N < M) : sg b N + sg (!b) M = sg (!b) (M - N) := by unfold sg; cases b <;> simp <;> omega
theorem sg_mul (b c : Bool) (N M : Nat) : sg b N * sg c M = sg (b != c) (N * M) := by unfold sg; cases b <;> cases c <;> simp [Int.neg_mul, Int.mul_neg]
theorem sg_not (b : Bool) (N : Nat) : sg (!b) N = -sg b N := by unfold sg; cases b <;> simp

/-- What a call leaves that stores its number into a block of its own. -/
theorem int_end {w w2 : World} {g : Nat} {b : Bool} {A A0 : Option Addr} {n c n0 c0 : Nat} {b0 : Bool} {Z : Int} (hb : Below w.heap.size w w2) (hg : w.heap.size ≤ g)
    (h0 : w2.cell? ⟨g, 0, none⟩ = some (.bool b0)) (h1 : w2.cell? ⟨g, 1, none⟩ = some (.slice A0 n0 c0)) (hi : IsNat w2 (.slice A n c) Z.natAbs) (hz : b = decide (Z < 0)) :
    IntPost w ((w2.setCell ⟨g, 0, none⟩ (.bool b)).setCell ⟨g, 1, none⟩ (.slice A n c)) (.returned (.agg #[.bool b, .slice A n c])) Z :=
  ⟨_, rfl, ⟨_, by rw [hz], hi.stored h0 h1 _ _⟩, (hb.setCell hg _).setCell hg _⟩

set_option maxHeartbeats 2000000 in
theorem add_same (b : Bool) (A : Option Addr) (n c N k : Nat) (B : Option Addr) (m d M l : Nat) (w : World) (h : Lim k w (.slice A n c) N) (h' : Lim l w (.slice B m d) M) (hk : k ≤ 1000000) (hl : l ≤ 1000000) :
    Calls Tryz.prog 65 #[.agg #[.bool b, .slice A n c], .agg #[.bool b, .slice B m d]] w fun e w' => IntPost w w' e (sg b (N + M)) := by
  have hs0 : w.heap.size < w.heap.size + 1 + 1 + 1 := by omega
  have hs1 : w.heap.size + 1 < w.heap.size + 1 + 1 + 1 := by omega
  have hs2 : ¬ w.heap.size = w.heap.size + 1 + 1 := by omega
  have hs3 : ¬ w.heap.size + 1 + 1 = w.heap.size := by omega
  go_enter Tryz.func65, Tryz.ntmps65
  go_wp2
  go_region_held3 (fun w' => w'.cell? ⟨w.heap.size, 0, none⟩ = some (.bool b) ∧ w'.cell? ⟨w.heap.size, 1, none⟩ = some (.slice A n c) ∧ w'.cell? ⟨w.heap.size + 1, 0, none⟩ = some (.bool b) ∧ w'.cell? ⟨w.heap.size + 1, 1, none⟩ = some (.slice B m d)) (go_keep)
    (first
      | (go_at_call 88; refine Calls.mono (lim_add (k := k) (m := l) (N := N) (M := M) (by repeat (first | assumption | with_reducible refine Lim.drew_ ?_ | with_reducible refine Lim.alloc_ ?_ _ | with_reducible refine Lim.below ?_ (by assumption))) (by repeat (first | assumption | with_reducible refine Lim.drew_ ?_ | with_reducible refine Lim.alloc_ ?_ _ | with_reducible refine Lim.below ?_ (by assumption))) hk hl) ?_; rintro e w1 ⟨v1, rfl, h1, hb1⟩; obtain ⟨A1, n1, c1, rfl, hn1, h1⟩ := isNat_form h1; obtain ⟨hc1, hf1⟩ := bcell hb1; have hz1_0 : w.heap.size < w1.heap.size := (by have := hb1.size; simp at this; omega); have hz1_1 : w.heap.size + 1 < w1.heap.size := (by have := hb1.size; simp at this; omega); have hz1_2 : w.heap.size + 1 + 1 < w1.heap.size := (by have := hb1.size; simp at this; omega))
      | (go_at_call 84; refine Calls.mono (signed_any _ _ _ _ _ _ h1 hn1) ?_; rintro e w2 ⟨v2, rfl, ⟨m2, rfl, h2⟩, hb2⟩; obtain ⟨A2, n2, c2, rfl, hn2, h2⟩ := isNat_form h2; obtain ⟨hc2, hf2⟩ := bcell hb2; have hz2_0 : w.heap.size < w2.heap.size := (by have := hb2.size; omega); have hz2_1 : w.heap.size + 1 < w2.heap.size := (by have := hb2.size; omega); have hz2_2 : w.heap.size + 1 + 1 < w2.heap.size := (by have := hb2.size; omega)))
  have b0 : Below w.heap.size w (((w.alloc (.cells #[.bool b, .slice A n c] 25)).alloc (.cells #[.bool b, .slice B m d] 25)).alloc (.cells #[.bool false, .slice none 0 0] 25)) := (((Below.refl _ _).alloc (Nat.le_refl _) _).alloc (by simp) _).alloc (by simp; omega) _
  have B2 : Below w.heap.size w w2 := (b0.drew.trans (hb1.mono (by simp; omega))).trans (hb2.mono (by omega))
  have x0 : w2.cell? ⟨w.heap.size + 1 + 1, 0, none⟩ = some (.bool false) := by rw [hc2 _ _ hz1_2, hc1 _ _ (by simp)]; exact (res_new _ _ (by simp) _ _).1
  have x1 : w2.cell? ⟨w.heap.size + 1 + 1, 1, none⟩ = some (.slice none 0 0) := by rw [hc2 _ _ hz1_2, hc1 _ _ (by simp)]; exact (res_new _ _ (by simp) _ _).2
  have HE := Lib.hid (int_end (w := w) (g := w.heap.size + 1 + 1) B2 (by omega) x0 x1 h2 rfl)
  have hr1 := first_cell x0
  have hr2 := second_cell x1
  clear x0 x1 h2
  go_wp2
  exact bodyPost_ret (v := .agg #[.bool (decide (sg b (N + M) < 0)), .slice A2 n2 c2]) (by simp [results, Tryz.results65, go_sem, hr1, hr2]) rfl HE.out

set_option maxHeartbeats 2000000 in
theorem wadd_ge (b : Bool) (A : Option Addr) (n c N k : Nat) (B : Option Addr) (m d M l : Nat) (w : World) (h : Lim k w (.slice A n c) N) (h' : Lim l w (.slice B m d) M) (hk : k ≤ 1000000) (hl : l ≤ 1000000) (hge : M ≤ N) :
    Calls Tryz.prog 65 #[.agg #[.bool b, .slice A n c], .agg #[.bool (!b), .slice B m d]] w fun e w' => IntPost w w' e (sg b (N - M)) := by
  have hne : (b == !b) = false := by cases b <;> rfl
  have hs0 : w.heap.size < w.heap.size + 1 + 1 + 1 := by omega
  have hs1 : w.heap.size + 1 < w.heap.size + 1 + 1 + 1 := by omega
  have hs2 : ¬ w.heap.size = w.heap.size + 1 + 1 := by omega
  have hs3 : ¬ w.heap.size + 1 + 1 = w.heap.size := by omega
  go_enter Tryz.func65, Tryz.ntmps65
  go_wp2_with fail
  refine Calls.mono ((lim_sub (k := k) (m := l) (N := N) (M := M) (by repeat (first | assumption | with_reducible refine Lim.drew_ ?_ | with_reducible refine Lim.alloc_ ?_ _ | with_reducible refine Lim.below ?_ (by assumption))) (by repeat (first | assumption | with_reducible refine Lim.drew_ ?_ | with_reducible refine Lim.alloc_ ?_ _ | with_reducible refine Lim.below ?_ (by assumption))) hk hl).mono fun e w' h => h.yes hge) ?_
  rintro e w1 ⟨v1, rfl, h1, hb1⟩
  obtain ⟨A1, n1, c1, rfl, hn1, h1⟩ := isNat_form h1
  obtain ⟨hc1, hf1⟩ := bcell hb1
  have hz1_0 : w.heap.size < w1.heap.size := (by have := hb1.size; simp at this; omega)
  have hz1_1 : w.heap.size + 1 < w1.heap.size := (by have := hb1.size; simp at this; omega)
  have hz1_2 : w.heap.size + 1 + 1 < w1.heap.size := (by have := hb1.size; simp at this; omega)
  go_wp2_with fail
  refine Calls.mono (signed_any _ _ _ _ _ _ h1 hn1) ?_
  rintro e w2 ⟨v2, rfl, ⟨m2, rfl, h2⟩, hb2⟩
  obtain ⟨A2, n2, c2, rfl, hn2, h2⟩ := isNat_form h2
  obtain ⟨hc2, hf2⟩ := bcell hb2
  have hz2_0 : w.heap.size < w2.heap.size := (by have := hb2.size; omega)
  have hz2_1 : w.heap.size + 1 < w2.heap.size := (by have := hb2.size; omega)
  have hz2_2 : w.heap.size + 1 + 1 < w2.heap.size := (by have := hb2.size; omega)
  have b0 : Below w.heap.size w (((w.alloc (.cells #[.bool b, .slice A n c] 25)).alloc (.cells #[.bool !b, .slice B m d] 25)).alloc (.cells #[.bool false, .slice none 0 0] 25)) := (((Below.refl _ _).alloc (Nat.le_refl _) _).alloc (by simp) _).alloc (by simp; omega) _
  have B2 : Below w.heap.size w w2 := ((b0.trans (hb1.mono (by simp; omega))).trans (hb2.mono (by omega)))
  have x0 : w2.cell? ⟨w.heap.size + 1 + 1, 0, none⟩ = some (.bool false) := by rw [hc2 _ _ hz1_2, hc1 _ _ (by simp)]; exact (res_new _ _ (by simp) _ _).1
  have x1 : w2.cell? ⟨w.heap.size + 1 + 1, 1, none⟩ = some (.slice none 0 0) := by rw [hc2 _ _ hz1_2, hc1 _ _ (by simp)]; exact (res_new _ _ (by simp) _ _).2
  have HE := Lib.hid (int_end (w := w) (g := w.heap.size + 1 + 1) B2 (by omega) x0 x1 h2 rfl)
  have hr1 := first_cell x0
  have hr2 := second_cell x1
  clear x0 x1 h2
  go_wp2
  exact bodyPost_ret (v := .agg #[.bool (decide (sg b (N - M) < 0)), .slice A2 n2 c2]) (by simp [results, Tryz.results65, go_sem, hr1, hr2]) rfl HE.out

set_option maxHeartbeats 2000000 in
theorem wadd_lt (b : Bool) (A : Option Addr) (n c N k : Nat) (B : Option Addr) (m d M l : Nat) (w : World) (h : Lim k w (.slice A n c) N) (h' : Lim l w (.slice B m d) M) (hk : k ≤ 1000000) (hl : l ≤ 1000000) (hlt : N < M) :
    Calls Tryz.prog 65 #[.agg #[.bool b, .slice A n c], .agg #[.bool (!b), .slice B m d]] w fun e w' => IntPost w w' e (sg (!b) (M - N)) := by
  have hne : (b == !b) = false := by cases b <;> rfl
  have hs0 : w.heap.size < w.heap.size + 1 + 1 + 1 := by omega
  have hs1 : w.heap.size + 1 < w.heap.size + 1 + 1 + 1 := by omega
  have hs2 : ¬ w.heap.size = w.heap.size + 1 + 1 := by omega
  have hs3 : ¬ w.heap.size + 1 + 1 = w.heap.size := by omega
  go_enter Tryz.func65, Tryz.ntmps65
  go_wp2_with fail
  refine Calls.mono ((lim_sub (k := k) (m := l) (N := N) (M := M) (by repeat (first | assumption | with_reducible refine Lim.drew_ ?_ | with_reducible refine Lim.alloc_ ?_ _ | with_reducible refine Lim.below ?_ (by assumption))) (by repeat (first | assumption | with_reducible refine Lim.drew_ ?_ | with_reducible refine Lim.alloc_ ?_ _ | with_reducible refine Lim.below ?_ (by assumption))) hk hl).mono fun e w' h => h.no hlt) ?_
  rintro e w1 ⟨v1, rfl, h1, hb1⟩
  obtain ⟨hc1, hf1⟩ := bcell hb1
  have hz1_0 : w.heap.size < w1.heap.size := (by have := hb1.size; simp at this; omega)
  have hz1_1 : w.heap.size + 1 < w1.heap.size := (by have := hb1.size; simp at this; omega)
  have hz1_2 : w.heap.size + 1 + 1 < w1.heap.size := (by have := hb1.size; simp at this; omega)
  go_wp2_with fail
  refine Calls.mono ((lim_sub (k := l) (m := k) (N := M) (M := N) (by repeat (first | assumption | with_reducible refine Lim.drew_ ?_ | with_reducible refine Lim.alloc_ ?_ _ | with_reducible refine Lim.below ?_ (by assumption))) (by repeat (first | assumption | with_reducible refine Lim.drew_ ?_ | with_reducible refine Lim.alloc_ ?_ _ | with_reducible refine Lim.below ?_ (by assumption))) hl hk).mono fun e w' h => h.yes (by omega)) ?_
  rintro e w2 ⟨v2, rfl, h2, hb2⟩
  obtain ⟨A2, n2, c2, rfl, hn2, h2⟩ := isNat_form h2
  obtain ⟨hc2, hf2⟩ := bcell hb2
  have hz2_0 : w.heap.size < w2.heap.size := (by have := hb2.size; omega)
  have hz2_1 : w.heap.size + 1 < w2.heap.size := (by have := hb2.size; omega)
  have hz2_2 : w.heap.size + 1 + 1 < w2.heap.size := (by have := hb2.size; omega)
  go_wp2_with fail
  refine Calls.mono (signed_any _ _ _ _ _ _ h2 hn2) ?_
  rintro e w3 ⟨v3, rfl, ⟨m3, rfl, h3⟩, hb3⟩
  obtain ⟨A3, n3, c3, rfl, hn3, h3⟩ := isNat_form h3
  obtain ⟨hc3, hf3⟩ := bcell hb3
  have hz3_0 : w.heap.size < w3.heap.size := (by have := hb3.size; omega)
  have hz3_1 : w.heap.size + 1 < w3.heap.size := (by have := hb3.size; omega)
  have hz3_2 : w.heap.size + 1 + 1 < w3.heap.size := (by have := hb3.size; omega)
  have b0 : Below w.heap.size w (((w.alloc (.cells #[.bool b, .slice A n c] 25)).alloc (.cells #[.bool !b, .slice B m d] 25)).alloc (.cells #[.bool false, .slice none 0 0] 25)) := (((Below.refl _ _).alloc (Nat.le_refl _) _).alloc (by simp) _).alloc (by simp; omega) _
  have B2 : Below w.heap.size w w3 := (((b0.trans (hb1.mono (by simp; omega))).trans (hb2.mono (by omega))).trans (hb3.mono (by omega)))
  have x0 : w3.cell? ⟨w.heap.size + 1 + 1, 0, none⟩ = some (.bool false) := by rw [hc3 _ _ hz2_2, hc2 _ _ hz1_2, hc1 _ _ (by simp)]; exact (res_new _ _ (by simp) _ _).1
  have x1 : w3.cell? ⟨w.heap.size + 1 + 1, 1, none⟩ = some (.slice none 0 0) := by rw [hc3 _ _ hz2_2, hc2 _ _ hz1_2, hc1 _ _ (by simp)]; exact (res_new _ _ (by simp) _ _).2
  have HE := Lib.hid (int_end (w := w) (g := w.heap.size + 1 + 1) B2 (by omega) x0 x1 h3 rfl)
  have hr1 := first_cell x0
  have hr2 := second_cell x1
  clear x0 x1 h3
  go_wp2
  exact bodyPost_ret (v := .agg #[.bool (decide (sg (!b) (M - N) < 0)), .slice A3 n3 c3]) (by simp [results, Tryz.results65, go_sem, hr1, hr2]) rfl HE.out

set_option maxHeartbeats 2000000 in
theorem mul_any_ (b b' s : Bool) (A : Option Addr) (n c N k : Nat) (B : Option Addr) (m d M l : Nat) (w : World) (h : Lim k w (.slice A n c) N) (h' : Lim l w (.slice B m d) M) (hk : k ≤ 1000000) (hl : l ≤ 1000000) (hs : (b != b') = s) :
    Calls Tryz.prog 66 #[.agg #[.bool b, .slice A n c], .agg #[.bool b', .slice B m d]] w fun e w' => IntPost w w' e (sg s (N * M)) := by
  have hs' : (!b == b') = s := by rw [← hs]; cases b <;> cases b' <;> rfl
  have hs0 : w.heap.size < w.heap.size + 1 + 1 + 1 := by omega
  have hs1 : w.heap.size + 1 < w.heap.size + 1 + 1 + 1 := by omega
  have hs2 : ¬ w.heap.size = w.heap.size + 1 + 1 := by omega
  have hs3 : ¬ w.heap.size + 1 + 1 = w.heap.size := by omega
  go_enter Tryz.func66, Tryz.ntmps66
  go_wp2
  go_region_held3 (fun w' => w'.cell? ⟨w.heap.size, 0, none⟩ = some (.bool b) ∧ w'.cell? ⟨w.heap.size, 1, none⟩ = some (.slice A n c) ∧ w'.cell? ⟨w.heap.size + 1, 0, none⟩ = some (.bool b') ∧ w'.cell? ⟨w.heap.size + 1, 1, none⟩ = some (.slice B m d)) (go_keep)
    (first
      | (go_at_call 90; refine Calls.mono (lim_mul (k := k) (m := l) (N := N) (M := M) (by repeat (first | assumption | with_reducible refine Lim.drew_ ?_ | with_reducible refine Lim.alloc_ ?_ _ | with_reducible refine Lim.below ?_ (by assumption))) (by repeat (first | assumption | with_reducible refine Lim.drew_ ?_ | with_reducible refine Lim.alloc_ ?_ _ | with_reducible refine Lim.below ?_ (by assumption))) hk hl) ?_; rintro e w1 ⟨v1, rfl, h1, hb1⟩; obtain ⟨A1, n1, c1, rfl, hn1, h1⟩ := isNat_form h1; obtain ⟨hc1, hf1⟩ := bcell hb1; have hz1_0 : w.heap.size < w1.heap.size := (by have := hb1.size; simp at this; omega); have hz1_1 : w.heap.size + 1 < w1.heap.size := (by have := hb1.size; simp at this; omega); have hz1_2 : w.heap.size + 1 + 1 < w1.heap.size := (by have := hb1.size; simp at this; omega))
      | (go_at_call 84; refine Calls.mono (signed_any _ _ _ _ _ _ h1 hn1) ?_; rintro e w2 ⟨v2, rfl, ⟨m2, rfl, h2⟩, hb2⟩; obtain ⟨A2, n2, c2, rfl, hn2, h2⟩ := isNat_form h2; obtain ⟨hc2, hf2⟩ := bcell hb2; have hz2_0 : w.heap.size < w2.heap.size := (by have := hb2.size; omega); have hz2_1 : w.heap.size + 1 < w2.heap.size := (by have := hb2.size; omega); have hz2_2 : w.heap.size + 1 + 1 < w2.heap.size := (by have := hb2.size; omega)))
  have b0 : Below w.heap.size w (((w.alloc (.cells #[.bool b, .slice A n c] 25)).alloc (.cells #[.bool b', .slice B m d] 25)).alloc (.cells #[.bool false, .slice none 0 0] 25)) := (((Below.refl _ _).alloc (Nat.le_refl _) _).alloc (by simp) _).alloc (by simp; omega) _
  have B2 : Below w.heap.size w w2 := ((b0.drew.trans (hb1.mono (by simp; omega))).trans (hb2.mono (by omega)))
  have x0 : w2.cell? ⟨w.heap.size + 1 + 1, 0, none⟩ = some (.bool false) := by rw [hc2 _ _ hz1_2, hc1 _ _ (by simp)]; exact (res_new _ _ (by simp) _ _).1
  have x1 : w2.cell? ⟨w.heap.size + 1 + 1, 1, none⟩ = some (.slice none 0 0) := by rw [hc2 _ _ hz1_2, hc1 _ _ (by simp)]; exact (res_new _ _ (by simp) _ _).2
  have HE := Lib.hid (int_end (w := w) (g := w.heap.size + 1 + 1) B2 (by omega) x0 x1 h2 rfl)
  have hr1 := first_cell x0
  have hr2 := second_cell x1
  clear x0 x1 h2
  go_wp2
  exact bodyPost_ret (v := .agg #[.bool (decide (sg s (N * M) < 0)), .slice A2 n2 c2]) (by simp [results, Tryz.results66, go_sem, hr1, hr2]) rfl HE.out

theorem li_add {k l : Nat} {w : World} {v v' : Value} {X Y : Int} (h : LimI k w v X) (h' : LimI l w v' Y) (hk : k ≤ 1000000) (hl : l ≤ 1000000) : Calls Tryz.prog 65 #[v, v'] w fun e w' => IntPost w w' e (X + Y) := by
  obtain ⟨b, m, N, rfl, ⟨A, n, c, f, rfl, hr⟩, rfl⟩ := h
  obtain ⟨b', m', M, rfl, ⟨B, n', c', f', rfl, hr'⟩, rfl⟩ := h'
  by_cases hb : b = b'
  · subst hb
    rw [sg_add]
    exact add_same b A n c N k B n' c' M l w ⟨A, n, c, f, rfl, hr⟩ ⟨B, n', c', f', rfl, hr'⟩ hk hl
  · obtain rfl : b' = !b := by cases b <;> cases b' <;> simp_all
    by_cases hle : M ≤ N
    · rw [sg_sub_ge b hle]
      exact wadd_ge b A n c N k B n' c' M l w ⟨A, n, c, f, rfl, hr⟩ ⟨B, n', c', f', rfl, hr'⟩ hk hl hle
    · rw [sg_sub_lt b (by omega)]
      exact wadd_lt b A n c N k B n' c' M l w ⟨A, n, c, f, rfl, hr⟩ ⟨B, n', c', f', rfl, hr'⟩ hk hl (by omega)
theorem li_mul {k l : Nat} {w : World} {v v' : Value} {X Y : Int} (h : LimI k w v X) (h' : LimI l w v' Y) (hk : k ≤ 1000000) (hl : l ≤ 1000000) : Calls Tryz.prog 66 #[v, v'] w fun e w' => IntPost w w' e (X * Y) := by
  obtain ⟨b, m, N, rfl, ⟨A, n, c, f, rfl, hr⟩, rfl⟩ := h
  obtain ⟨b', m', M, rfl, ⟨B, n', c', f', rfl, hr'⟩, rfl⟩ := h'
  rw [sg_mul]
  exact mul_any_ b b' _ A n c N k B n' c' M l w ⟨A, n, c, f, rfl, hr⟩ ⟨B, n', c', f', rfl, hr'⟩ hk hl rfl
end Go.Proofs.YtebdmidghidaeaaGreat
