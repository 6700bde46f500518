/- The walk of CellApart, of two records. -/
import Derived.Test.YtahcgihdgpdiiaaKv
import Derived.IntWalk
namespace Go.Proofs.Ytahcgihdgpdiiaa
open Go.RowKit
set_option linter.unusedSimpArgs false
set_option linter.unusedVariables false

theorem not_join_n {N m : Nat} {X X' : Nat → CellD} (hne : m ≠ N) (hX : ∀ i, i < N → (X i).q = (N : Nat)) (hX' : 0 < m → ∃ j, j < N ∧ X' 0 = X j) : ¬ joinP m X' := fun h => by
  obtain ⟨j, hj, e⟩ := hX' h.1
  have h1 := (h.2 0 h.1).2.2.1
  rw [e, hX j hj] at h1
  omega
theorem not_join_s {N k : Nat} {X : Nat → CellD} {y : CellD} {s s' : Nat} (hN : N ≠ 1) (hk : k < N) (hX : ∀ i, i < N → (X i).s = s) (hy : y.s = s') (hne : s ≠ s') : ¬ joinP N (updX X k y) := fun h => by
  have h1 := (h.2 k hk).2.2.2.2
  obtain ⟨j, hj, hjk⟩ : ∃ j, j < N ∧ j ≠ k := by
    by_cases h0 : k = 0
    · exact ⟨1, by omega, by omega⟩
    · exact ⟨0, by omega, by omega⟩
  have h2 := (h.2 j hj).2.2.2.2
  rw [← h1] at h2
  unfold updX at h2
  rw [if_neg hjk, if_pos rfl, hX j hj, hy] at h2
  exact hne h2
theorem data_of {w w' : World} {A : Option Addr} {n : Nat} {X : Nat → CellD} (h : CellsAt w A n X) (hb : Below w.heap.size w w') : ∀ i, i < n → Rd .u8 w' (X i).A (X i).n (X i).f ∧ (X i).good := fun i hi => by
  obtain ⟨ad, e, ha⟩ := h i hi
  exact ⟨ha.2.2.2.2.2.2.1.below hb, ha.2.2.2.2.2.2.2⟩
/-- A list of one's own, read. -/
theorem OwnC.read {w' : World} {base n c : Nat} {A : Option Addr} {X : Nat → CellD} (h : OwnC w' base (.slice A n c) n X) (hd : ∀ i, i < n → Rd .u8 w' (X i).A (X i).n (X i).f ∧ (X i).good) : CellsAt w' A n X := h.at_ (fun i hi => (hd i hi).1) (fun i hi => (hd i hi).2)
theorem OwnC.any {w : World} {base n : Nat} {v : Value} {X : Nat → CellD} (h : OwnC w base v n X) : ∃ A c, v = .slice A n c ∧ Hid (OwnC w base (.slice A n c) n X) := by
  rcases h.2 with ⟨rfl, h0⟩ | ⟨g, c, _, rfl, _⟩
  · subst h0; exact ⟨none, 0, rfl, h⟩
  · exact ⟨_, c, rfl, h⟩
def missX (X : Nat → CellD) (k : Nat) : Nat → CellD := fun i => if i < k then X i else X (i + 1)
def twiceX (X : Nat → CellD) (k : Nat) : Nat → CellD := fun i => if i < k + 1 then X i else X (i - 1)
theorem miss_is {X : Nat → CellD} {k : Nat} (i : Nat) : appX (appX X 0 X) (0 + k) (fun i => X (k + 1 + i)) i = missX X k i := by
  unfold appX missX
  rw [Nat.zero_add]
  by_cases h : i < k
  · rw [if_pos h, if_pos h, if_neg (by omega), Nat.sub_zero]
  · rw [if_neg h, if_neg h]
    exact congrArg X (by omega)
theorem twice_is {X : Nat → CellD} {k : Nat} (i : Nat) : appX (appX X 0 X) (0 + (k + 1)) (fun i => X (k + i)) i = twiceX X k i := by
  unfold appX twiceX
  rw [Nat.zero_add]
  by_cases h : i < k + 1
  · rw [if_pos h, if_pos h, if_neg (by omega), Nat.sub_zero]
  · rw [if_neg h, if_neg h]
    exact congrArg X (by omega)
theorem elem_of {w : World} {a : Addr} {x : CellD} (h : CellAt w a x) : Elem w a (x.g : Nat) (x.s : Nat) x.p x.q x.A x.n x.c := ⟨h.1, h.2.1, h.2.2.1, h.2.2.2.1, h.2.2.2.2.1, h.2.2.2.2.2.1⟩
theorem miss_in {X : Nat → CellD} {N k : Nat} (hk : k < N) (i : Nat) (hi : i < N - 1) : ∃ j, j < N ∧ missX X k i = X j := by
  unfold missX
  by_cases h : i < k
  · exact ⟨i, by omega, by rw [if_pos h]⟩
  · exact ⟨i + 1, by omega, by rw [if_neg h]⟩
theorem twice_in {X : Nat → CellD} {N k : Nat} (hk : k < N) (i : Nat) (hi : i < N + 1) : ∃ j, j < N ∧ twiceX X k i = X j := by
  unfold twiceX
  by_cases h : i < k + 1
  · exact ⟨i, by omega, by rw [if_pos h]⟩
  · exact ⟨i - 1, by omega, by rw [if_neg h]⟩
theorem join_iyes {A : Option Addr} {n c : Nat} {X : Nat → CellD} {w : World} (h : CellsAt w A n X) (hn : n ≤ 1000000) (hj : joinP n X) :
    Calls Try.prog 22 #[.slice A n c] w fun e w' => (∃ v, e = .returned (.tuple #[v, .int .i64 0])) ∧ Below w.heap.size w w' := by
  refine (join_by h hn).mono ?_
  rintro e w' ⟨⟨_, v, h1, _⟩ | ⟨h1, _⟩, hb⟩
  · exact ⟨⟨v, h1⟩, hb⟩
  · exact absurd hj h1

set_option maxRecDepth 20000 in
set_option maxHeartbeats 2000000 in
theorem apart_yes (A : Option Addr) (n c : Nat) (f : Nat → Nat) (A2 : Option Addr) (m c2 : Nat) (h : Nat → Nat) (t : Nat) (w : World) (hv : Byt w (.slice A n c) n f) (hv2 : Byt w (.slice A2 m c2) m h) (hz : needF n ≠ 0) (hz2 : needF m ≠ 0) (ht : t < 256) :
    Calls Try.prog 5 #[.slice A n c, .slice A2 m c2, .int .u8 (t : Nat)] w fun e w' => ApartPost w w' e := by
  have HV := Lib.hid hv
  have HV2 := Lib.hid hv2
  have HZ := Lib.hid hz
  have HZ2 := Lib.hid hz2
  have hn : n ≤ 392 := by have := mt need_zero.2 hz; omega
  have hm : m ≤ 392 := by have := mt need_zero.2 hz2; omega
  have hN8 := need_few n
  have hM8 := need_few m
  obtain ⟨N, hN⟩ : ∃ N, needF n = N := ⟨_, rfl⟩
  obtain ⟨M, hM⟩ : ∃ M, needF m = M := ⟨_, rfl⟩
  have hN1 : 0 < N := by omega
  have hM1 : 0 < M := by omega
  have HN := Lib.hid hN
  have HM := Lib.hid hM
  rw [hN] at hN8
  rw [hM] at hM8
  clear hv hv2 hz hz2 hN hM
  have hk : t % N < N := Nat.mod_lt _ hN1
  have hk0 : (t : Int) % (N : Int) = ((t % N : Nat) : Int) := (Int.natCast_emod t N).symm
  generalize t % N = k at *
  have hkk : k % M < M := Nat.mod_lt _ hM1
  have hkk0 : (k : Int) % (M : Int) = ((k % M : Nat) : Int) := (Int.natCast_emod k M).symm
  generalize hq : k % M = q at *
  clear hq
  have hne : ¬ ((N : Int) = 0) := by omega
  have hne2 : ((N : Int) == 0) = false := by rw [beq_eq_false_iff_ne]; exact hne
  have hne3 : ¬ ((M : Int) = 0) := by omega
  have hne4 : ((M : Int) == 0) = false := by rw [beq_eq_false_iff_ne]; exact hne3
  have HQ := Lib.hid (show _ ∧ _ ∧ _ from ⟨hkk0, hne3, hne4⟩)
  clear hkk0 hne3 hne4
  have tok1 : True := trivial
  go_enter Try.func5, Try.ntmps5
  go_wp2_with (first
    | (go_at_call 10; refine (awake_any _).mono ?_; rintro e w1 ⟨rfl, hb1⟩)
    | (go_at_call 20; have _t := tok1; clear _t tok1; refine Calls.mono (split_i u32_1 u32_5 (HV.out.below hb1) (by omega) HZ.out) ?_; rintro e w2 ⟨⟨v2, rfl, hv2⟩, hb2⟩; obtain ⟨ad, ca, X, rfl, hca, hX, hP⟩ := hv2; rw [HN.out] at hca hX hP ⊢; have HX := Lib.hid hX; have HP := Lib.hid hP; have hb3 := bbt hb1 hb2; clear hX hP hb1 hb2)
    | (go_at_call 20; refine Calls.mono (split_i u32_1 u32_6 (HV2.out.below hb3) (by omega) HZ2.out) ?_; rintro e w4 ⟨⟨v4, rfl, hv4⟩, hb4⟩; obtain ⟨bd, cb, Y, rfl, hcb, hY, hP4⟩ := hv4; rw [HM.out] at hcb hY hP4 ⊢; have HY := Lib.hid hY; have HP4 := Lib.hid hP4; have HX4 := Lib.hid (HX.out.keep hb4); have HB4 := Lib.hid (bbt hb3 hb4); clear hY hP4 hb3 hb4 HX))
  obtain ⟨B1, hb1s, hB1⟩ := back_at ad N ca (k + 1) X w4 HX4.out hca (by omega)
  obtain ⟨B2, hb2s, hB2⟩ := back_at ad N ca k X w4 HX4.out hca (by omega)
  have HB1 := Lib.hid hB1
  have HB2 := Lib.hid hB2
  have s1 := fun wq => front_at ad N ca k hca (by omega) wq (k : Int) rfl
  have s2 := fun wq => hb1s wq ((k : Int) + 1) (by omega)
  have s3 := fun wq => front_at ad N ca (k + 1) hca (by omega) wq ((k : Int) + 1) (by omega)
  have s4 := fun wq => hb2s wq (k : Int) rfl
  have hwr : IntKind.i64.wrap ((k : Int) + 1) = (k : Int) + 1 := IntWalk.i64_in _ (by omega)
  rw [hk0]
  clear hb1s hb2s hB1 hB2 hk0 hne hne2
  have hbn4 := below_new w4.drew (.cells #[] 25)
  have HXn := Lib.hid (HX4.out.drew.keep hbn4)
  have HBn1 := Lib.hid (HB1.out.drew.keep hbn4)
  have tok2 : True := trivial
  have hk1N : k + 1 ≤ N := hk
  go_region_law (first
    | (
      refine step_app_cells rfl rfl (.tmp 72) (.tmp 75) rfl w4.heap.size (.slice (some ⟨w4.heap.size, 0, none⟩) 0 0) 0 X (by simp [Act.eval]) (ownC_none w4.drew X) ad k ca X (by simp [Act.eval]) (HXn.out.less (by omega)) (by omega) (by simp) ?_
      intro v5 w5 ho5 hb5 hs5)
    | (
      refine step_app_cells rfl rfl (.tmp 76) (.tmp 80) rfl w4.heap.size v5 (0 + k) (appX X 0 X) (by simp [Act.eval]) ho5 B1 (N - (k + 1)) (ca - (k + 1)) (fun i => X (k + 1 + i)) (by simp [Act.eval]) (HB1.out.keep ((Below.drew_ (below_new w4 (.cells #[] 25))).trans hb5)) (by omega) (by simp at hs5; omega) ?_
      intro v6 w6 ho6 hb6 hs6))
  have hb46 := ((Below.drew_ (below_new w4 (.cells #[] 25))).trans hb5).trans hb6
  have ho7 : OwnC w6 w4.heap.size v6 (N - 1) (missX X k) := by
    have e : 0 + k + (N - (k + 1)) = N - 1 := by omega
    rw [e] at ho6
    exact ho6.congr fun i hi => miss_is i
  obtain ⟨A6, c6, rfl, HO6⟩ : ∃ A6 c6, v6 = .slice A6 (N - 1) c6 ∧ Hid (OwnC w6 w4.heap.size (.slice A6 (N - 1) c6) (N - 1) (missX X k)) := ho7.any
  have HX6 := Lib.hid (HX4.out.keep hb46)
  have HB26 := Lib.hid (HB2.out.keep hb46)
  have HB6 := Lib.hid (bbt HB4.out hb46)
  have HY6 := Lib.hid (HY.out.keep hb46)
  clear ho5 hb5 hs5 ho6 hb6 hs6 ho7 hb46 HXn HBn1 hbn4
  (try simp only [Act.put, List.setIfInBounds_toArray, List.set_cons_zero, List.set_cons_succ, List.getElem_toArray, List.getElem_cons_succ, List.getElem_cons_zero])
  go_wp2
  have hbn6 := below_new w6.drew (.cells #[] 25)
  have HXn := Lib.hid (HX6.out.drew.keep hbn6)
  go_region_law (first
    | (
      refine step_app_cells rfl rfl (.tmp 82) (.tmp 86) rfl w6.heap.size (.slice (some ⟨w6.heap.size, 0, none⟩) 0 0) 0 X (by simp [Act.eval]) (ownC_none w6.drew X) ad (k + 1) ca X (by simp [Act.eval]) (HXn.out.less (by omega)) (by omega) (by simp) ?_
      intro v7 w7 ho7 hb7 hs7)
    | (
      refine step_app_cells rfl rfl (.tmp 87) (.tmp 90) rfl w6.heap.size v7 (0 + (k + 1)) (appX X 0 X) (by simp [Act.eval]) ho7 B2 (N - k) (ca - k) (fun i => X (k + i)) (by simp [Act.eval]) (HB26.out.keep ((Below.drew_ (below_new w6 (.cells #[] 25))).trans hb7)) (by omega) (by simp at hs7; omega) ?_
      intro v8 w8 ho8 hb8 hs8))
  have hb68 := ((Below.drew_ (below_new w6 (.cells #[] 25))).trans hb7).trans hb8
  have ho9 : OwnC w8 w6.heap.size v8 (N + 1) (twiceX X k) := by
    have e : 0 + (k + 1) + (N - k) = N + 1 := by omega
    rw [e] at ho8
    exact ho8.congr fun i hi => twice_is i
  obtain ⟨A8, c8, rfl, HO8⟩ : ∃ A8 c8, v8 = .slice A8 (N + 1) c8 ∧ Hid (OwnC w8 w6.heap.size (.slice A8 (N + 1) c8) (N + 1) (twiceX X k)) := ho9.any
  have HX8 := Lib.hid (HX6.out.keep hb68)
  have HB8 := Lib.hid (bbt HB6.out hb68)
  have HY8 := Lib.hid (HY6.out.keep hb68)
  have HO68 := Lib.hid (HO6.out.below hb68)
  clear ho7 hb7 hs7 ho8 hb8 hs8 ho9 hb68 HXn hbn6 s1 s2 s3 s4 hwr HX6 HY6 HB26 HB1 HB2
  (try simp only [Act.put, List.setIfInBounds_toArray, List.set_cons_zero, List.set_cons_succ, List.getElem_toArray, List.getElem_cons_succ, List.getElem_cons_zero])
  have hown := ownC_none w8 X
  have HXn := Lib.hid (HX8.out.keep (below_new w8 (.cells #[] 25)))
  obtain ⟨hkk0, hne3, hne4⟩ := HQ.out
  go_wp2_with (at_builtin; refine wpList_app_cells rfl rfl _ _ rfl w8.heap.size _ 0 X rfl hown ad N ca X rfl HXn.out (by omega) (by simp) ?_; intro v9 w9 hown9 hb9 hs9; rw [Nat.zero_add] at hown9; have hown10 : OwnC w9 w8.heap.size v9 N X := hown9.congr fun j _ => (by simp [appX]); obtain ⟨g9, c9, rfl, hg9, hc9⟩ := hown10.form hN1; have HO9 := Lib.hid hown10; have hb89 := (below_new w8 (.cells #[] 25)).trans hb9; have HB9 := Lib.hid hb89; have HY9 := Lib.hid (HY8.out.keep hb89); clear hown hown9 hown10 hb9 hs9 hb89; obtain ⟨y0, y1, y2, y3, y4, y5⟩ := elem_of (HY9.out.at_ hkk); obtain ⟨a0, a1, a2, a3, a4⟩ := HO9.out.cells5 hk; have hfz : ∀ j, w9.frozen? ⟨g9, j, none⟩ = false := fun j => World.ownsRow.frozenAt HO9.out j)
  change Calls _ _ _ (set5C w9 g9 k (Y q)) _
  have hw10 := set5C_wr w9 g9 k (Y q)
  have hO10 : OwnC (set5C w9 g9 k (Y q)) w8.heap.size (.slice (some ⟨g9, 0, none⟩) N c9) N (updX X k (Y q)) := HO9.out.set5 hk (Y q)
  generalize set5C w9 g9 k (Y q) = w10 at *
  have hb810 := hw10.below HB9.out HB9.out.size hg9
  have hD8 := fun i hi => data_of HX8.out (Below.refl _ _) i hi
  have hM8 : CellsAt w8 A6 (N - 1) (missX X k) := HO68.out.read fun i hi => by
    obtain ⟨j, hj, e⟩ := miss_in (X := X) hk i hi
    rw [e]; exact hD8 j hj
  have hT8 : CellsAt w8 A8 (N + 1) (twiceX X k) := HO8.out.read fun i hi => by
    obtain ⟨j, hj, e⟩ := twice_in (X := X) hk i hi
    rw [e]; exact hD8 j hj
  have hU10 : CellsAt w10 (some ⟨g9, 0, none⟩) N (updX X k (Y q)) := hO10.read fun i hi => by
    unfold updX
    by_cases e : i = k
    · rw [if_pos e]; exact data_of HY8.out hb810 q hkk
    · rw [if_neg e]; exact data_of HX8.out hb810 i hi
  have HM10 := Lib.hid (hM8.keep hb810)
  have HT10 := Lib.hid (hT8.keep hb810)
  have HU10 := Lib.hid hU10
  have HB10 := Lib.hid (bbt HB8.out hb810)
  have hXq : ∀ i, i < N → (X i).q = (N : Nat) := fun i hi => by have := (HP.out i hi).2.2.2.1; rw [HN.out] at this; exact this
  have HJ1 := Lib.hid (not_join_n (m := N - 1) (N := N) (X' := missX X k) (by omega) hXq fun h0 => miss_in hk 0 h0)
  have HJ2 := Lib.hid (not_join_n (m := N + 1) (N := N) (X' := twiceX X k) (by omega) hXq fun h0 => twice_in hk 0 h0)
  have HJ3 : Hid (N ≠ 1 → ¬ joinP N (updX X k (Y q))) := fun h0 => not_join_s (s := 5) (s' := 6) h0 hk (fun i hi => (HP.out i hi).2.1) (HP4.out q hkk).2.1 (by decide)
  clear hw10 hO10 hb810 hD8 hM8 hT8 hU10 hXq a0 a1 a2 a3 a4 hfz y0 y1 y2 y3 y4 y5 hkk0 hne3 hne4 HO9 HO8 HO68 HO6
  have tok3 : True := trivial
  have tok4 : True := trivial
  by_cases hJ : joinP N (updX X k (Y q))
  · have h1 : N = 1 := by
      by_cases h : N = 1
      · exact h
      · exact absurd hJ (HJ3.out h)
    have HJ := Lib.hid hJ
    have h1I : ((N : Int) == 1) = true := by rw [h1]; rfl
    clear hJ
    have HH1 := Lib.hid h1
    clear h1
    go_wp2_with (first
      | (go_at_call 22; have _t := tok3; clear _t tok3; refine Calls.mono (join_ino HM10.out (by omega) HJ1.out) ?_; rintro e w11 ⟨rfl, hb11⟩; have HT11 := Lib.hid (HT10.out.keep hb11); have HU11 := Lib.hid (HU10.out.keep hb11); have HB11 := Lib.hid (bbt HB10.out hb11); clear hb11)
      | (go_at_call 22; have _t := tok4; clear _t tok4; refine Calls.mono (join_ino HT11.out (by omega) HJ2.out) ?_; rintro e w12 ⟨rfl, hb12⟩; have HU12 := Lib.hid (HU11.out.keep hb12); have HB12 := Lib.hid (bbt HB11.out hb12); clear hb12)
      | (go_at_call 22; refine Calls.mono (join_iyes HU12.out (by omega) HJ.out) ?_; rintro e w13 ⟨⟨v13, rfl⟩, hb13⟩; have HB13 := Lib.hid (bbt HB12.out hb13); clear hb13))
    go_ret
    exact ⟨rfl, HB13.out⟩
  · have HJ := Lib.hid hJ
    clear hJ
    go_wp2_with (first
      | (go_at_call 22; have _t := tok3; clear _t tok3; refine Calls.mono (join_ino HM10.out (by omega) HJ1.out) ?_; rintro e w11 ⟨rfl, hb11⟩; have HT11 := Lib.hid (HT10.out.keep hb11); have HU11 := Lib.hid (HU10.out.keep hb11); have HB11 := Lib.hid (bbt HB10.out hb11); clear hb11)
      | (go_at_call 22; have _t := tok4; clear _t tok4; refine Calls.mono (join_ino HT11.out (by omega) HJ2.out) ?_; rintro e w12 ⟨rfl, hb12⟩; have HU12 := Lib.hid (HU11.out.keep hb12); have HB12 := Lib.hid (bbt HB11.out hb12); clear hb12)
      | (go_at_call 22; refine Calls.mono (join_ino HU12.out (by omega) HJ.out) ?_; rintro e w13 ⟨rfl, hb13⟩; have HB13 := Lib.hid (bbt HB12.out hb13); clear hb13))
    go_ret
    exact ⟨rfl, HB13.out⟩
theorem apart_any (A : Option Addr) (n c : Nat) (f : Nat → Nat) (A2 : Option Addr) (m c2 : Nat) (h : Nat → Nat) (t : Nat) (w : World) (hv : Byt w (.slice A n c) n f) (hn : n ≤ 9223372036854775807) (hv2 : Byt w (.slice A2 m c2) m h) (hm : m ≤ 9223372036854775807) (ht : t < 256) :
    Calls Try.prog 5 #[.slice A n c, .slice A2 m c2, .int .u8 (t : Nat)] w fun e w' => ApartPost w w' e := by
  by_cases hz : needF n = 0
  · exact apart_no1 A n c f A2 m c2 h t w hv hn hv2 hm hz
  · by_cases hz2 : needF m = 0
    · exact apart_no2 A n c f A2 m c2 h t w hv hn hv2 hm hz hz2
    · exact apart_yes A n c f A2 m c2 h t w hv hv2 hz hz2 ht
end Go.Proofs.Ytahcgihdgpdiiaa
