/- The walk of RootFlips. -/
import Derived.Test.YteeomidlnijfbaaPOj
namespace Go.Proofs.Yteeomidlnijfbaa
open Go.RowKit
set_option linter.unusedSimpArgs false
set_option linter.unusedVariables false

set_option maxRecDepth 100000 in
set_option maxHeartbeats 4000000 in
theorem root_flips (w : World) (g0 : Nat) (hg0 : g0 < 4294967296) {A : Option Addr} {m c : Nat} {f : Nat → Nat} (hv : Byt w (.slice A m c) m f) (hm : m ≤ 9223372036854775807) {B : Option Addr} {n d : Nat} {X : Nat → RowE} (hX : RowsE w B n X) (hn : n ≤ 9223372036854775807) :
    Calls Try.prog 7 #[.int .u32 (g0 : Nat), .slice A m c, .slice B n d] w fun e w' => e = .returned (.bool true) ∧ Below w.heap.size w w' := by
  have HV : Hid (∀ u j, Below w.heap.size w u → j < m → ∃ ad, A = some ad ∧ u.cell? (ad.add j) = some (.int .u8 (f j : Nat)) ∧ f j < 256) := fun u j hu hj => by
    obtain ⟨A', c', e, _, hr, hf⟩ := hv
    cases e
    obtain ⟨ad, e, hc⟩ := hr j hj
    exact ⟨ad, e, (hu.cell (block_lt_of_cell hc)).trans hc, hf j hj⟩
  have HX : Hid (∀ u i, Below w.heap.size w u → i < n → ∃ ad, B = some ad ∧ u.cell? (ad.add i) = some (X i).val ∧ (X i).good u) := fun u i hu hi => (hX.below hu) i hi
  have HNEW : Hid (∀ u, Below w.heap.size w u → Calls Try.prog 12 #[.int .i64 2] u fun e w' => ∃ gd, e = .returned (.tuple #[.pointer (some ⟨gd, 0, none⟩), .int .i64 0]) ∧ Held w w' gd (Sti 2 fun _ => some fun _ => 0) fun _ => True) := fun u hu => held_sti 2 (by omega) (by omega) hu
  have HS0 : Hid (g0 ≠ 0 → ∀ u gd, Held w u gd (Sti 2 fun _ => some fun _ => 0) (fun _ => True) → Calls Try.prog 25 #[.pointer (some ⟨gd, 0, none⟩), .int .u32 (g0 : Nat)] u fun e w' => ∃ T, e = .returned (.int .i64 0) ∧ Flp T g0 ∧ Held w w' gd (Sti 2 T) fun _ => True) := fun hne u gd h => by
    have := h.save (Nat.zero_le _) g0 hg0
    rw [sti_save (by omega) hne] at this
    refine this.mono fun e w' h => ⟨_, h.1, ⟨if_pos rfl, ?_, hg0⟩, h.2⟩
    have e : setT (fun _ => some fun _ => 0) (g0 % 2) (some (rootF g0)) (1 - g0 % 2) = some fun _ => 0 := if_neg (by omega)
    rw [e, say_zero]
    exact Nat.zero_le _
  clear hv hX hg0
  by_cases hz : g0 = 0
  · subst hz
    go_enter Try.func7, Try.ntmps7
    go_wp2_with (first
      | (go_at_call 23; refine (awake8 _).mono ?_; rintro e w1 ⟨rfl, hb1⟩; have HB1 := Lib.hid hb1; clear hb1)
      | (go_at_call 12; refine (HNEW.out _ HB1.out).mono ?_; rintro e w2 ⟨gd, rfl, h2⟩; have H2 := Lib.hid h2; clear h2))
    go_ret
    exact ⟨rfl, H2.out.bel⟩
  · have hz1 : ((g0 : Int) == 0) = false := by rw [beq_eq_false_iff_ne]; omega
    have HSV := Lib.hid (HS0.out hz)
    clear hz HS0
    go_enter Try.func7, Try.ntmps7
    go_wp2_with (first
      | (go_at_call 23; refine (awake8 _).mono ?_; rintro e w1 ⟨rfl, hb1⟩; have HB1 := Lib.hid hb1; clear hb1)
      | (go_at_call 12; refine (HNEW.out _ HB1.out).mono ?_; rintro e w2 ⟨gd, rfl, h2⟩; have H2 := Lib.hid h2; clear h2)
      | (go_at_call 25; refine (HSV.out _ _ H2.out).mono ?_; rintro e w3 ⟨T3, rfl, hf3, h3⟩; have HF3 := Lib.hid hf3; have H3 := Lib.hid h3; clear hf3 h3))
    go_loopw [9, 10] (fun x9 x10 wr => ∃ (i g : Nat) (z : Int) (T : Nat → Option (Nat → Nat)), i ≤ 40 ∧ i ≤ m ∧ x10 = .int .i64 (i : Nat) ∧ x9 = .int .u32 z ∧ z = (g : Nat) ∧ Flp T g ∧ Held w wr gd (Sti 2 T) fun _ => True) (fun _ x10 _ => 40 - (intOf x10).toNat)
    case atStart => exact ⟨0, g0, _, T3, by omega, by omega, rfl, rfl, rfl, HF3.out, H3.out⟩
    case round =>
      obtain ⟨i, g, z, T, hi40, him, rfl, rfl, hz, hf, hh⟩ := hrel
      have HF := Lib.hid hf
      have HH := Lib.hid hh
      clear hf hh
      by_cases hlt : i < m
      · by_cases h40 : i < 40
        · have j1 : (i : Int) < (m : Int) := by omega
          have j2 : (i : Int) < 40 := by omega
          have hgl := HF.out.2.2
          by_cases hg : g < 4294967295
          · obtain ⟨ad, rfl, hcell, hs⟩ := HV.out _ i HH.out.bel hlt
            generalize f i = s at *
            have hz0 : 0 ≤ z := by omega
            have hz1 : z < 4294967295 := by omega
            have HZ := Lib.hid hz
            have HG := Lib.hid hg
            clear hg hgl hz
            obtain ⟨p, hp⟩ : ∃ p : Nat, s % 4 = p := ⟨_, rfl⟩
            have hpI : (s : Int) % 4 = (p : Int) := by omega
            have hp4 : p < 4 := by omega
            obtain ⟨S2, k, hr⟩ : ∃ S2 k, ((Sti 2 T).plan (p : Nat)).save (g + 1) = (S2, k) := ⟨_, _, rfl⟩
            have HPL : Hid (∀ u, Held w u gd (Sti 2 T) (fun _ => True) → Calls Try.prog 17 #[.pointer (some ⟨gd, 0, none⟩), .int .i64 (p : Nat)] u fun e w' => e = .returned (.tuple #[]) ∧ Held w w' gd ((Sti 2 T).plan (p : Nat)) fun _ => True) := fun u h => h.plan (p : Nat) (by omega)
            have HSA : Hid (∀ u, Held w u gd ((Sti 2 T).plan (p : Nat)) (fun _ => True) → Calls Try.prog 25 #[.pointer (some ⟨gd, 0, none⟩), .int .u32 (z + 1)] u fun e w' => e = .returned (.int .i64 k) ∧ Held w w' gd S2 fun _ => True) := fun u h => by
              have := h.save (Nat.zero_le _) (g + 1) (by have := HG.out; omega)
              rw [hr, show ((g + 1 : Nat) : Int) = z + 1 from by have := HZ.out; omega] at this
              exact this
            by_cases hin : i < n
            · obtain ⟨bd, rfl, hbc, hbg⟩ := HX.out _ i HH.out.bel hin
              have HBC : Hid (∀ u, Below w.heap.size w u → u.cell? (bd.add i) = some (X i).val) := fun u hu => by
                obtain ⟨bd', e, h, _⟩ := HX.out u i hu hin
                cases e
                exact h
              have HBG : Hid (∀ u, Below w.heap.size w u → (X i).good u) := fun u hu => by
                obtain ⟨bd', e, _, h⟩ := HX.out u i hu hin
                exact h
              have hinI : (i : Int) < (n : Int) := by omega
              clear hbc hbg hin
              obtain ⟨⟨C, q, qc, cf⟩, hrow⟩ : ∃ r, X i = r := ⟨_, rfl⟩
              rw [hrow] at HBC HBG
              clear hrow
              by_cases hq : 300 < q
              · have hq1 : (300 : Int) < (q : Int) := by omega
                go_wp2_with (first
                  | (go_at_call 17; refine (HPL.out _ HH.out).mono ?_; rintro e w4 ⟨rfl, h4⟩; have H4 := Lib.hid h4; clear h4)
                  | (go_at_call 25; refine (HSA.out _ H4.out).mono ?_; rintro e w5 ⟨rfl, h5⟩; have H5 := Lib.hid h5; have b5 := HBC.out _ H5.out.bel; clear h5)
                  | (go_at_call 18; refine (HUP.out _ H5.out).mono ?_; rintro e w6 ⟨rfl, h6⟩; have H6 := Lib.hid h6; clear h6)
                  | (go_at_call 31; refine (HLD.out _ H6.out).mono ?_; rintro e w7 ⟨rfl, h7⟩; have H7 := Lib.hid h7; clear h7))
                go_ret
                exact ⟨rfl, H5.out.bel⟩
              · have hq1 : ¬ (300 : Int) < (q : Int) := by omega
                obtain ⟨T1, e1, e2, e3⟩ := flip_step (T := T) (g := g) hp4 ((List.range q).map cf)
                rw [hr] at e1 e2 e3
                have hflp := e2.flp HF.out (by have := HG.out; omega)
                have HUP : Hid (∀ u, Held w u gd S2 (fun _ => True) → Calls Try.prog 18 #[.pointer (some ⟨gd, 0, none⟩), .slice C q qc] u fun e w' => e = .returned (.tuple #[]) ∧ Held w w' gd (Sti 2 T1) fun _ => True) := fun u h => by
                  obtain ⟨⟨C', qc', e, h1, h2, h3⟩, h4⟩ := HBG.out u h.bel
                  cases e
                  have := h.up (by have : S2.P.length ≤ 1 := e3; omega) C q qc cf h2 h3 h1 (by omega)
                  rw [show S2.up ((List.range q).map cf) = Sti 2 T1 from e1] at this
                  exact this
                clear e1 e2 e3 hr hp hp4 hq
                rcases hflp with hnew | ⟨hk0, hold⟩
                · have HLD : Hid (∀ u, Held w u gd (Sti 2 T1) (fun _ => True) → Calls Try.prog 31 #[.pointer (some ⟨gd, 0, none⟩)] u fun e w' => e = .returned (.tuple #[.int .u32 (z + 1), .int .i64 0]) ∧ Held w w' gd (Sti 2 T1) fun _ => True) := fun u h => by
                    have := h.load
                    rw [hnew.load, show ((g + 1 : Nat) : Int) = z + 1 from by have := HZ.out; omega] at this
                    exact this
                  have HFN := Lib.hid hnew
                  clear hnew
                  by_cases hk : k = 0
                  · subst hk
                    go_wp2_with (first
                      | (go_at_call 17; refine (HPL.out _ HH.out).mono ?_; rintro e w4 ⟨rfl, h4⟩; have H4 := Lib.hid h4; clear h4)
                      | (go_at_call 25; refine (HSA.out _ H4.out).mono ?_; rintro e w5 ⟨rfl, h5⟩; have H5 := Lib.hid h5; have b5 := HBC.out _ H5.out.bel; clear h5)
                      | (go_at_call 18; refine (HUP.out _ H5.out).mono ?_; rintro e w6 ⟨rfl, h6⟩; have H6 := Lib.hid h6; clear h6)
                      | (go_at_call 31; refine (HLD.out _ H6.out).mono ?_; rintro e w7 ⟨rfl, h7⟩; have H7 := Lib.hid h7; clear h7))
                    refine ⟨⟨i + 1, g + 1, z + 1, T1, by omega, by omega, by rw [Int.natCast_add]; rfl, rfl, by have := HZ.out; omega, HFN.out, H7.out⟩, by simp [intOf]; omega⟩
                  · have hk1 : (k == 0) = false := by rw [beq_eq_false_iff_ne]; exact hk
                    clear hk
                    go_wp2_with (first
                      | (go_at_call 17; refine (HPL.out _ HH.out).mono ?_; rintro e w4 ⟨rfl, h4⟩; have H4 := Lib.hid h4; clear h4)
                      | (go_at_call 25; refine (HSA.out _ H4.out).mono ?_; rintro e w5 ⟨rfl, h5⟩; have H5 := Lib.hid h5; have b5 := HBC.out _ H5.out.bel; clear h5)
                      | (go_at_call 18; refine (HUP.out _ H5.out).mono ?_; rintro e w6 ⟨rfl, h6⟩; have H6 := Lib.hid h6; clear h6)
                      | (go_at_call 31; refine (HLD.out _ H6.out).mono ?_; rintro e w7 ⟨rfl, h7⟩; have H7 := Lib.hid h7; clear h7))
                    refine ⟨⟨i + 1, g + 1, z + 1, T1, by omega, by omega, by rw [Int.natCast_add]; rfl, rfl, by have := HZ.out; omega, HFN.out, H7.out⟩, by simp [intOf]; omega⟩
                · have HLD : Hid (∀ u, Held w u gd (Sti 2 T1) (fun _ => True) → Calls Try.prog 31 #[.pointer (some ⟨gd, 0, none⟩)] u fun e w' => e = .returned (.tuple #[.int .u32 z, .int .i64 0]) ∧ Held w w' gd (Sti 2 T1) fun _ => True) := fun u h => by
                    have := h.load
                    rw [hold.load, show ((g : Nat) : Int) = z from HZ.out.symm] at this
                    exact this
                  have HFN := Lib.hid hold
                  have hk1 : (k == 0) = false := by rw [beq_eq_false_iff_ne]; exact hk0
                  clear hold hk0
                  go_wp2_with (first
                    | (go_at_call 17; refine (HPL.out _ HH.out).mono ?_; rintro e w4 ⟨rfl, h4⟩; have H4 := Lib.hid h4; clear h4)
                    | (go_at_call 25; refine (HSA.out _ H4.out).mono ?_; rintro e w5 ⟨rfl, h5⟩; have H5 := Lib.hid h5; have b5 := HBC.out _ H5.out.bel; clear h5)
                    | (go_at_call 18; refine (HUP.out _ H5.out).mono ?_; rintro e w6 ⟨rfl, h6⟩; have H6 := Lib.hid h6; clear h6)
                    | (go_at_call 31; refine (HLD.out _ H6.out).mono ?_; rintro e w7 ⟨rfl, h7⟩; have H7 := Lib.hid h7; clear h7))
                  refine ⟨⟨i + 1, g, z, T1, by omega, by omega, by rw [Int.natCast_add]; rfl, rfl, HZ.out, HFN.out, H7.out⟩, by simp [intOf]; omega⟩
            · have hinI : ¬ (i : Int) < (n : Int) := by omega
              obtain ⟨T1, e1, e2, e3⟩ := flip_step (T := T) (g := g) hp4 []
              rw [hr] at e1 e2 e3
              have hflp := e2.flp HF.out (by have := HG.out; omega)
              have HUP : Hid (∀ u, Held w u gd S2 (fun _ => True) → Calls Try.prog 18 #[.pointer (some ⟨gd, 0, none⟩), .slice none 0 0] u fun e w' => e = .returned (.tuple #[]) ∧ Held w w' gd (Sti 2 T1) fun _ => True) := fun u h => by
                have := h.up (by have : S2.P.length ≤ 1 := e3; omega) none 0 0 (fun _ => 0) Rd.zero (fun j hj => absurd hj (by omega)) (by omega) (by omega)
                rw [show S2.up ((List.range 0).map fun _ => 0) = Sti 2 T1 from e1] at this
                exact this
              clear e1 e2 e3 hr hp hp4 hin
              rcases hflp with hnew | ⟨hk0, hold⟩
              · have HLD : Hid (∀ u, Held w u gd (Sti 2 T1) (fun _ => True) → Calls Try.prog 31 #[.pointer (some ⟨gd, 0, none⟩)] u fun e w' => e = .returned (.tuple #[.int .u32 (z + 1), .int .i64 0]) ∧ Held w w' gd (Sti 2 T1) fun _ => True) := fun u h => by
                  have := h.load
                  rw [hnew.load, show ((g + 1 : Nat) : Int) = z + 1 from by have := HZ.out; omega] at this
                  exact this
                have HFN := Lib.hid hnew
                clear hnew
                by_cases hk : k = 0
                · subst hk
                  go_wp2_with (first
                    | (go_at_call 17; refine (HPL.out _ HH.out).mono ?_; rintro e w4 ⟨rfl, h4⟩; have H4 := Lib.hid h4; clear h4)
                    | (go_at_call 25; refine (HSA.out _ H4.out).mono ?_; rintro e w5 ⟨rfl, h5⟩; have H5 := Lib.hid h5;  clear h5)
                    | (go_at_call 18; refine (HUP.out _ H5.out).mono ?_; rintro e w6 ⟨rfl, h6⟩; have H6 := Lib.hid h6; clear h6)
                    | (go_at_call 31; refine (HLD.out _ H6.out).mono ?_; rintro e w7 ⟨rfl, h7⟩; have H7 := Lib.hid h7; clear h7))
                  refine ⟨⟨i + 1, g + 1, z + 1, T1, by omega, by omega, by rw [Int.natCast_add]; rfl, rfl, by have := HZ.out; omega, HFN.out, H7.out⟩, by simp [intOf]; omega⟩
                · have hk1 : (k == 0) = false := by rw [beq_eq_false_iff_ne]; exact hk
                  clear hk
                  go_wp2_with (first
                    | (go_at_call 17; refine (HPL.out _ HH.out).mono ?_; rintro e w4 ⟨rfl, h4⟩; have H4 := Lib.hid h4; clear h4)
                    | (go_at_call 25; refine (HSA.out _ H4.out).mono ?_; rintro e w5 ⟨rfl, h5⟩; have H5 := Lib.hid h5;  clear h5)
                    | (go_at_call 18; refine (HUP.out _ H5.out).mono ?_; rintro e w6 ⟨rfl, h6⟩; have H6 := Lib.hid h6; clear h6)
                    | (go_at_call 31; refine (HLD.out _ H6.out).mono ?_; rintro e w7 ⟨rfl, h7⟩; have H7 := Lib.hid h7; clear h7))
                  refine ⟨⟨i + 1, g + 1, z + 1, T1, by omega, by omega, by rw [Int.natCast_add]; rfl, rfl, by have := HZ.out; omega, HFN.out, H7.out⟩, by simp [intOf]; omega⟩
              · have HLD : Hid (∀ u, Held w u gd (Sti 2 T1) (fun _ => True) → Calls Try.prog 31 #[.pointer (some ⟨gd, 0, none⟩)] u fun e w' => e = .returned (.tuple #[.int .u32 z, .int .i64 0]) ∧ Held w w' gd (Sti 2 T1) fun _ => True) := fun u h => by
                  have := h.load
                  rw [hold.load, show ((g : Nat) : Int) = z from HZ.out.symm] at this
                  exact this
                have HFN := Lib.hid hold
                have hk1 : (k == 0) = false := by rw [beq_eq_false_iff_ne]; exact hk0
                clear hold hk0
                go_wp2_with (first
                  | (go_at_call 17; refine (HPL.out _ HH.out).mono ?_; rintro e w4 ⟨rfl, h4⟩; have H4 := Lib.hid h4; clear h4)
                  | (go_at_call 25; refine (HSA.out _ H4.out).mono ?_; rintro e w5 ⟨rfl, h5⟩; have H5 := Lib.hid h5;  clear h5)
                  | (go_at_call 18; refine (HUP.out _ H5.out).mono ?_; rintro e w6 ⟨rfl, h6⟩; have H6 := Lib.hid h6; clear h6)
                  | (go_at_call 31; refine (HLD.out _ H6.out).mono ?_; rintro e w7 ⟨rfl, h7⟩; have H7 := Lib.hid h7; clear h7))
                refine ⟨⟨i + 1, g, z, T1, by omega, by omega, by rw [Int.natCast_add]; rfl, rfl, HZ.out, HFN.out, H7.out⟩, by simp [intOf]; omega⟩
          · have hz1 : ¬ z < 4294967295 := by omega
            have j1 : (i : Int) < (m : Int) := by omega
            have HB := Lib.hid HH.out.bel
            clear hg hgl hz
            go_wp2
            go_ret
            exact ⟨rfl, HB.out⟩
        · have j1 : (i : Int) < (m : Int) := by omega
          have j2 : ¬ (i : Int) < 40 := by omega
          have HB := Lib.hid HH.out.bel
          go_wp2
          go_ret
          exact ⟨rfl, HB.out⟩
      · have j1 : ¬ (i : Int) < (m : Int) := by omega
        have HB := Lib.hid HH.out.bel
        go_wp2
        go_ret
        exact ⟨rfl, HB.out⟩
end Go.Proofs.Yteeomidlnijfbaa
