/- The walk of CellOrder. -/
import Derived.Test.YtahcgihdgpdiiaaKt
import Derived.RegionTactic
namespace Go.Proofs.Ytahcgihdgpdiiaa
open Go.RowKit
set_option linter.unusedSimpArgs false
set_option linter.unusedVariables false

def OrderPost (w w' : World) (e : Ending) : Prop := e = .returned (.bool true) ∧ Below w.heap.size w w'
theorem u32_3 : u32I 3 := by unfold u32I; omega
theorem u32_4 : u32I 4 := by unfold u32I; omega
theorem need_zero {k : Nat} : needF k = 0 ↔ k = 0 ∨ 392 < k := by
  unfold needF
  split <;> omega

set_option maxHeartbeats 1000000 in
theorem order_no (A : Option Addr) (n c t b : Nat) (f : Nat → Nat) (w : World) (hv : Byt w (.slice A n c) n f) (hn : n ≤ 9223372036854775807) (hz : needF n = 0) :
    Calls Try.prog 8 #[.slice A n c, .int .u8 (t : Nat), .int .u8 (b : Nat)] w fun e w' => OrderPost w w' e := by
  have HV := Lib.hid hv
  have HZ := Lib.hid hz
  clear hv hz
  go_enter Try.func8, Try.ntmps8
  go_wp2_with (first
    | (go_at_call 10; refine (awake_any _).mono ?_; rintro e w1 ⟨rfl, hb1⟩)
    | (go_at_call 20; refine Calls.mono (split_ino u32_3 u32_4 (HV.out.below hb1) hn HZ.out) ?_; rintro e w2 ⟨rfl, hb2⟩))
  go_ret
  exact ⟨rfl, bbt hb1 hb2⟩
theorem OwnC.cells5 {w : World} {base g n c : Nat} {X : Nat → CellD} (h : OwnC w base (.slice (some ⟨g, 0, none⟩) n c) n X) {i : Nat} (hi : i < n) :
    w.cell? ⟨g, i * 5, none⟩ = some (.int .u32 ((X i).g : Nat)) ∧ w.cell? ⟨g, i * 5 + 1, none⟩ = some (.int .u32 ((X i).s : Nat)) ∧ w.cell? ⟨g, i * 5 + 2, none⟩ = some (.int .i64 (X i).p) ∧ w.cell? ⟨g, i * 5 + 3, none⟩ = some (.int .i64 (X i).q) ∧ w.cell? ⟨g, i * 5 + 4, none⟩ = some (.slice (X i).A (X i).n (X i).c) := by
  have cl : ∀ j, j < 5 → w.cell? ⟨g, i * 5 + j, none⟩ = (cellL (X i))[j]? := fun j hj => by
    rw [World.ownsRow.cellAt (g := g) (cap := c) h (i * 5 + j) (by omega)]
    exact rowL_get X hj n hi
  exact ⟨cl 0 (by omega), cl 1 (by omega), cl 2 (by omega), cl 3 (by omega), cl 4 (by omega)⟩
/-- Cells i and k changed about. -/
def swapX (X : Nat → CellD) (i k : Nat) : Nat → CellD := updX (updX X i (X k)) k (X i)
theorem swap_is {X : Nat → CellD} {i k N : Nat} (hi : i < N) (hk : k < N) (j : Nat) (hj : j < N) : ∃ m, m < N ∧ swapX X i k j = X m := by
  unfold swapX updX
  by_cases h1 : j = k
  · exact ⟨i, hi, by rw [if_pos h1]⟩
  · by_cases h2 : j = i
    · exact ⟨k, hk, by rw [if_neg h1, if_pos h2]⟩
    · exact ⟨j, hj, by rw [if_neg h1, if_neg h2]⟩
theorem swap_same {X : Nat → CellD} {i j : Nat} : swapX X i i j = X j := by
  unfold swapX updX
  by_cases h : j = i
  · rw [if_pos h, h]
  · rw [if_neg h, if_neg h]
theorem join_ino {A : Option Addr} {n c : Nat} {X : Nat → CellD} {w : World} (h : CellsAt w A n X) (hn : n ≤ 1000000) (hj : ¬ joinP n X) :
    Calls Try.prog 22 #[.slice A n c] w fun e w' => e = .returned (.tuple #[.slice none 0 0, .int .i64 2]) ∧ Below w.heap.size w w' := by
  refine (join_by h hn).mono ?_
  rintro e w' ⟨⟨h1, _⟩ | ⟨_, h1⟩, hb⟩
  · exact absurd h1 hj
  · exact ⟨h1, hb⟩
def set5C (w : World) (g i : Nat) (x : CellD) : World := ((((w.setCell ⟨g, i * 5, none⟩ (.int .u32 (x.g : Nat))).setCell ⟨g, i * 5 + 1, none⟩ (.int .u32 (x.s : Nat))).setCell ⟨g, i * 5 + 2, none⟩ (.int .i64 x.p)).setCell ⟨g, i * 5 + 3, none⟩ (.int .i64 x.q)).setCell ⟨g, i * 5 + 4, none⟩ (.slice x.A x.n x.c)
theorem set5C_wr (w : World) (g i : Nat) (x : CellD) : Wr g w (set5C w g i x) := ((((Wr.set_ _ _ _ _).setCell _ _).setCell _ _).setCell _ _).setCell _ _
theorem OwnC.drew {w : World} {base n : Nat} {v : Value} {X : Nat → CellD} (h : OwnC w base v n X) : OwnC w.drew base v n X := h
theorem swap_world {w : World} {base g c N i k : Nat} {X : Nat → CellD} (h : OwnC w base (.slice (some ⟨g, 0, none⟩) N c) N X) (hi : i < N) (hk : k < N) :
    OwnC (set5C (set5C w g i (X k)) g k (X i)).drew base (.slice (some ⟨g, 0, none⟩) N c) N (swapX X i k) ∧ Wr g w (set5C (set5C w g i (X k)) g k (X i)).drew := by
  have h1 : OwnC (set5C w g i (X k)) base (.slice (some ⟨g, 0, none⟩) N c) N (updX X i (X k)) := h.set5 hi (X k)
  have h2 : OwnC (set5C (set5C w g i (X k)) g k (X i)) base (.slice (some ⟨g, 0, none⟩) N c) N (updX (updX X i (X k)) k (X i)) := h1.set5 hk (X i)
  exact ⟨h2.drew, ((set5C_wr _ _ _ _).trans (set5C_wr _ _ _ _)).drew⟩

set_option maxRecDepth 20000 in
set_option maxHeartbeats 800000 in
theorem order_yes (A : Option Addr) (n c t b : Nat) (f : Nat → Nat) (w : World) (hv : Byt w (.slice A n c) n f) (ht : t < 256) (hb : b < 256) (hz : needF n ≠ 0) :
    Calls Try.prog 8 #[.slice A n c, .int .u8 (t : Nat), .int .u8 (b : Nat)] w fun e w' => OrderPost w w' e := by
  have hn1 : n ≤ 392 := by have := mt need_zero.2 hz; omega
  have hN8 := need_few n
  obtain ⟨N, hN⟩ : ∃ N, needF n = N := ⟨_, rfl⟩
  have hN1 : 0 < N := by omega
  have HN := Lib.hid hN
  have HV := Lib.hid hv
  have HZ := Lib.hid hz
  rw [hN] at hN8
  clear hv hz hN
  have hi : t % N < N := Nat.mod_lt _ hN1
  have hk : b % N < N := Nat.mod_lt _ hN1
  have hi0 : (t : Int) % (N : Int) = ((t % N : Nat) : Int) := (Int.natCast_emod t N).symm
  have hk0 : (b : Int) % (N : Int) = ((b % N : Nat) : Int) := (Int.natCast_emod b N).symm
  generalize t % N = i at *
  generalize b % N = k at *
  have hne : ¬ ((N : Int) = 0) := by omega
  have hne2 : ((N : Int) == 0) = false := by rw [beq_eq_false_iff_ne]; exact hne
  go_enter Try.func8, Try.ntmps8
  go_wp2_with (first
    | (go_at_call 10; refine (awake_any _).mono ?_; rintro e w1 ⟨rfl, hb1⟩)
    | (go_at_call 20; refine Calls.mono (split_i u32_3 u32_4 (HV.out.below hb1) (by omega) HZ.out) ?_; rintro e w2 ⟨⟨v2, rfl, hv2⟩, hb2⟩; obtain ⟨ad, c2, X, rfl, hc2, hX2, hP2⟩ := hv2; have HB2 := Lib.hid (bbt hb1 hb2); rw [HN.out] at hX2 hP2 hc2 ⊢; have HP2 := Lib.hid hP2; have HX0 := Lib.hid hX2; have HX2 := Lib.hid (hX2.keep (below_new w2 (.cells #[] 25))); have hown := ownC_none w2 X; clear hX2 hP2 hb1 hb2)
    | (at_builtin; refine wpList_app_cells rfl rfl _ _ rfl w2.heap.size _ 0 X rfl hown ad N c2 X rfl HX2.out (by omega) (by simp) ?_; intro v3 w3 hown3 hb3 hs3; rw [Nat.zero_add] at hown3; have hown4 : OwnC w3 w2.heap.size v3 N X := hown3.congr fun j _ => (by simp [appX]); obtain ⟨g3, c3, rfl, hg3, hc3⟩ := hown4.form hN1; have HO3 := Lib.hid hown4; have HB3 := Lib.hid ((below_new w2 (.cells #[] 25)).trans hb3); clear hown hown3 hown4 hb3 hs3))
  obtain ⟨a0, a1, a2, a3, a4⟩ := HO3.out.cells5 hi
  obtain ⟨d0, d1, d2, d3, d4⟩ := HO3.out.cells5 hk
  have hfz : ∀ j, w3.frozen? ⟨g3, j, none⟩ = false := fun j => World.ownsRow.frozenAt HO3.out j
  have hO4 := HO3.out.set5 hi (X k)
  obtain ⟨h0, h1, h2, h3, h4⟩ := hO4.cells5 hk
  have hfz2 := fun j => World.ownsRow.frozenAt hO4 j
  have HO4 := Lib.hid hO4
  clear hO4
  have HII := Lib.hid (show _ ∧ _ from ⟨hi, hk⟩)
  clear hi0 hk0 hne hne2
  go_region
  change Exit.then _ _ _ _ (set5C (set5C w3 g3 i (X k)) g3 k (X i)).drew
  have HSW := Lib.hid (swap_world HO3.out hi hk)
  clear HO4 a0 a1 a2 a3 a4 d0 d1 d2 d3 d4 h0 h1 h2 h3 h4 hfz hfz2
  generalize (set5C (set5C w3 g3 i (X k)) g3 k (X i)).drew = w5 at *
  obtain ⟨hO6, hw5⟩ := HSW.out
  have hb5 := hw5.below HB3.out HB3.out.size hg3
  have HB5 := Lib.hid (bbt HB2.out hb5)
  have hX5 : CellsAt w5 (some ⟨g3, 0, none⟩) N (swapX X i k) := hO6.at_ (fun j hj => by
      obtain ⟨m, hm, e⟩ := swap_is (X := X) hi hk j hj
      rw [e]
      exact ((HX0.out.at_ hm).2.2.2.2.2.2.1).below hb5) (fun j hj => by
      obtain ⟨m, hm, e⟩ := swap_is (X := X) hi hk j hj
      rw [e]
      exact (HX0.out.at_ hm).2.2.2.2.2.2.2)
  clear hw5 hO6 HO3 HSW hb5
  by_cases hik : i = k
  · subst hik
    have hpt : Parts w5 3 4 n f (.slice (some ⟨g3, 0, none⟩) (needF n) c3) := ⟨_, _, swapX X i i, rfl, by rw [HN.out]; exact hc3, by rw [HN.out]; exact hX5, fun j hj => by
      rw [HN.out] at hj
      rw [swap_same]
      exact HP2.out j hj⟩
    rw [HN.out] at hpt
    have HPT := Lib.hid hpt
    clear hpt hX5
    go_wp2_with (first
      | (go_at_call 22; refine Calls.mono (join_i HPT.out HZ.out) ?_; rintro e w6 ⟨⟨v6, rfl, hv6⟩, hb6⟩; have HV6 := Lib.hid hv6; have HB6 := Lib.hid (bbt HB5.out hb6); clear hv6 hb6)
      | (go_at_call 15; refine Calls.mono (rows_by HV6.out (HV.out.below HB6.out) (by omega) (by omega)) ?_; rintro e w7 ⟨⟨b7, rfl, hb7⟩, hbl7⟩; obtain rfl := hb7.2 ⟨rfl, fun j _ => rfl⟩; have HB7 := Lib.hid (bbt HB6.out hbl7); clear hb7 hbl7))
    go_ret
    exact ⟨rfl, HB7.out⟩
  · have HNJ : Hid (¬ joinP N (swapX X i k)) := fun h => by
      have h1 := (h.2 i hi).2.1
      unfold swapX updX at h1
      rw [if_neg hik, if_pos rfl] at h1
      have h2 := (HP2.out k hk).2.2.1
      rw [h2] at h1
      omega
    have HX5 := Lib.hid hX5
    have hik2 : ((i : Int) == (k : Int)) = false := by rw [beq_eq_false_iff_ne]; omega
    clear hX5 hik
    go_wp2_with (go_at_call 22; refine Calls.mono (join_ino HX5.out (by omega) HNJ.out) ?_; rintro e w6 ⟨rfl, hb6⟩)
    go_ret
    exact ⟨rfl, bbt HB5.out hb6⟩
theorem order_any (A : Option Addr) (n c t b : Nat) (f : Nat → Nat) (w : World) (hv : Byt w (.slice A n c) n f) (hn : n ≤ 9223372036854775807) (ht : t < 256) (hb : b < 256) :
    Calls Try.prog 8 #[.slice A n c, .int .u8 (t : Nat), .int .u8 (b : Nat)] w fun e w' => OrderPost w w' e := by
  by_cases hz : needF n = 0
  · exact order_no A n c t b f w hv hn hz
  · exact order_yes A n c t b f w hv ht hb hz
end Go.Proofs.Ytahcgihdgpdiiaa
