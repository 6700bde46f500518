/- LedgerGens: the walk. -/
import Derived.Test.YtmcbmbcfgefocaaPHc
import Derived.Deep.RegionHeld3
namespace Go.Proofs.Ytmcbmbcfgefocaa
open Go.RowKit Go.Shelf
set_option linter.unusedSimpArgs false
set_option linter.unusedVariables false

set_option maxRecDepth 100000 in
set_option maxHeartbeats 8000000 in
theorem ledger_gens (w : World) (A : Option Addr) (len cap : Nat) (Y : Nat → ListE) (hlen : len ≤ 9223372036854775807) (hY : ListsE w A len Y) : Calls Try.prog 3 #[.slice A len cap] w fun e w' => e = .returned (.bool true) ∧ Below w.heap.size w w' := by
  have HAW := Lib.hid (awake9 w)
  have HNEW : Hid (∀ u, Below w.heap.size w u → Calls Try.prog 8 #[.int .i64 200] u fun e w' => ∃ gd, e = .returned (.tuple #[.pointer (some ⟨gd, 0, none⟩), .int .i64 0]) ∧ HeldD u w' gd (DS.new 200) (fun _ => False)) := Lib.hid fun u hu => (held_disk (N := 200) (by omega) (by omega)).mono fun e w' h => by
    obtain ⟨gd, rfl, h1⟩ := h
    exact ⟨gd, rfl, h1⟩
  have HOP : Hid (∀ w1 u gd, HeldD w1 u gd (DS.new 200) (fun _ => False) → Calls Try.prog 9 #[.pointer (some ⟨gd, 0, none⟩)] u fun e w' => ∃ gl, e = .returned (.tuple #[.pointer (some ⟨gl, 0, none⟩), .int .i64 0]) ∧ Gn w1 w' gl gd 0 0) := Lib.hid fun w1 u gd h => by
    refine ((dg_new (by omega) (by omega) h).open_ (by omega) (by omega)).mono ?_
    rintro e w' ⟨gl, rs2, rfl, hs, hl, _⟩
    obtain rfl := same_nil hs
    exact ⟨gl, rfl, 0, 0, [], by omega, hl⟩
  have HYY := Lib.hid hY
  clear hY
  by_cases h12 : len ≤ 12
  · have j12 : ¬ ((len : Int) > 12) := by omega
    have d12 : decide ((len : Int) > 12) = false := decide_eq_false j12
    have HL12 := Lib.hid h12
    clear h12
    go_enter Try.func3, Try.ntmps3
    go_wp2_with (first
      | (go_at_call 7; refine HAW.out.mono ?_; rintro e w1 ⟨rfl, hb1⟩; have HB1 := Lib.hid hb1; clear hb1)
      | (go_at_call 8; refine (HNEW.out _ HB1.out).mono ?_; rintro e w2 ⟨gd, rfl, h2⟩; have H2 := Lib.hid h2; clear h2)
      | (go_at_call 9; refine (HOP.out _ _ _ H2.out).mono ?_; rintro e w3 ⟨gl, rfl, h3⟩; have H3 := Lib.hid h3; clear h3))
    clear d12
    go_loopw [5, 7, 8] (fun x5 x7 x8 wr => ∃ gl g i : Nat, x5 = .pointer (some ⟨gl, 0, none⟩) ∧ x7 = .int .u32 (g : Nat) ∧ x8 = .int .i64 (i : Nat) ∧ i ≤ len ∧ g ≤ i ∧ Gn w1 wr gl gd g i) (fun _ _ x8 _ => len - (intOf x8).toNat)
    case atStart => exact ⟨_, 0, 0, rfl, rfl, rfl, by omega, by omega, H3.out⟩
    case round =>
      obtain ⟨gl, g, i, rfl, rfl, rfl, hi, hg, hgn⟩ := hrel
      have HGN := Lib.hid hgn
      have HI := Lib.hid (And.intro hi hg)
      have HBW := Lib.hid (bbt HB1.out hgn.bel)
      clear hgn hi hg
      by_cases hlt : i < len
      · have j1 : (i : Int) < (len : Int) := by omega
        have HLT := Lib.hid hlt
        obtain ⟨ad, rfl, hc, hn0, hrow⟩ := HYY.out i hlt
        obtain ⟨li, hli⟩ : ∃ li, Y i = li := ⟨_, rfl⟩
        rw [hli] at hc hn0 hrow
        obtain ⟨A2, n2, c2, X2⟩ := li
        have hc : w.cell? (ad.add i) = some (.slice A2 n2 c2) := hc
        have hn0 : n2 ≤ 9223372036854775807 := hn0
        have hrow : RowsE w A2 n2 X2 := hrow
        have HC := Lib.hid (fun (u : World) (hu : Below w.heap.size w u) => (show u.cell? (ad.add i) = some (.slice A2 n2 c2) from (hu.cell (block_lt_of_cell hc)).trans hc))
        obtain ⟨R, hRR⟩ : ∃ R : Nat → RowD, (fun j => (X2 j).row) = R := ⟨_, rfl⟩
        have hR : RowsIn w A2 n2 R := by rw [← hRR]; exact hrow.rows
        have HR := Lib.hid hR
        have HFW := Lib.hid (few7 (w := wr) (c := c2) (hR.below HBW.out))
        have c1 := HC.out wr HBW.out
        obtain ⟨fb, hfb⟩ : ∃ fb, fewB R n2 = fb := ⟨_, rfl⟩
        have HFB := Lib.hid hfb
        rw [hfb] at HFW
        clear hc hrow hli hRR hR hfb hlt
        cases fb
        · go_wp2_with (go_at_call 10; refine HFW.out.mono ?_; rintro e w4 ⟨rfl, hb4⟩; have HB4 := Lib.hid hb4; clear hb4)
          go_ret
          exact ⟨rfl, bbt HBW.out HB4.out⟩
        · have hn40 := few_lt HFB.out
          have HN40 := Lib.hid hn40
          clear hn40
          go_wp2_with (go_at_call 10; refine HFW.out.mono ?_; rintro e w4 ⟨rfl, hb4⟩; have HB4 := Lib.hid hb4; have HBW4 := Lib.hid (bbt HBW.out hb4); have HGN4 := Lib.hid (HGN.out.below hb4); clear hb4)
          have c4 := HC.out w4 HBW4.out
          have HR4 := Lib.hid (fun k hk => (HR.out.below HBW4.out) k hk)
          clear c1
          go_loopw [9, 10, 11] (fun x9 x10 x11 wq => ∃ k : Nat, k ≤ n2 ∧ x9 = .int .i64 (sumN R k : Nat) ∧ x10 = .bool (rightB R k) ∧ x11 = .int .i64 (k : Nat) ∧ wq = w4) (fun _ _ x11 _ => n2 - (intOf x11).toNat)
          case atStart => exact ⟨0, by omega, rfl, rfl, rfl, rfl⟩
          case round =>
            obtain ⟨k, hk, rfl, rfl, rfl, hwq⟩ := hrel
            replace hwq := hwq.symm
            subst hwq
            obtain ⟨sm, hsm⟩ : ∃ sm, sumN R k = sm := ⟨_, rfl⟩
            obtain ⟨rb, hrb⟩ : ∃ rb, rightB R k = rb := ⟨_, rfl⟩
            have hsm2 : sm ≤ 320 := by have := sumN_le R k; have := HN40.out; omega
            have HSM := Lib.hid hsm
            have HRB := Lib.hid hrb
            rw [hsm, hrb]
            clear hsm hrb
            by_cases hkn : k < n2
            · have jk : (k : Int) < (n2 : Int) := by omega
              have HKN := Lib.hid hkn
              obtain ⟨ad2, rfl, q1, q2, q3⟩ := HR4.out k hkn
              obtain ⟨m, hm⟩ : ∃ m, (R k).n = m := ⟨_, rfl⟩
              rw [hm] at q1 q3
              have HM := Lib.hid hm
              obtain ⟨nd, hnd⟩ : ∃ nd, needF m = nd := ⟨_, rfl⟩
              have hnd8 : nd ≤ 8 := by rw [← hnd]; exact need_few m
              have HND := Lib.hid hnd
              have HNE : Hid (∀ u : World, Calls Try.prog 11 #[.int .i64 (m : Nat)] u fun e w' => e = .returned (.int .i64 (nd : Nat)) ∧ w' = u) := Lib.hid fun u => by
                have := rneed_any m u q3
                rw [hnd] at this
                exact this
              obtain ⟨AA, hAA⟩ : ∃ AA, (R k).A = AA := ⟨_, rfl⟩
              obtain ⟨CC, hCC⟩ : ∃ CC, (R k).c = CC := ⟨_, rfl⟩
              rw [hAA, hCC] at q1
              have HS1 := Lib.hid (show sumN R (k + 1) = sm + nd from by show sumN R k + needF (R k).n = _; rw [HSM.out, hm, hnd])
              clear q2 hm hnd hAA hCC hkn hk
              cases rb
              · have HR1 := Lib.hid (show rightB R (k + 1) = false from by unfold rightB; rw [HRB.out]; rfl)
                go_wp2_with (go_at_call 11; refine (HNE.out _).mono ?_; rintro e w5 ⟨rfl, hw5⟩; subst hw5)
                exact ⟨⟨k + 1, by have := HKN.out; omega, by rw [HS1.out]; go_num, by rw [HR1.out], by rw [Int.natCast_add]; rfl, by first | rfl | trivial⟩, by simp [intOf]; have := HKN.out; omega⟩
              · by_cases hz : nd = 0
                · have jz : ¬ (0 : Int) < (nd : Int) := by omega
                  have HR1 := Lib.hid (show rightB R (k + 1) = decide (0 < nd) from by unfold rightB; rw [HRB.out, HM.out, HND.out, hz]; rfl)
                  clear hz
                  go_wp2_with (go_at_call 11; refine (HNE.out _).mono ?_; rintro e w5 ⟨rfl, hw5⟩; subst hw5)
                  exact ⟨⟨k + 1, by have := HKN.out; omega, by rw [HS1.out]; go_num, by rw [HR1.out], by rw [Int.natCast_add]; rfl, by first | rfl | trivial⟩, by simp [intOf]; have := HKN.out; omega⟩
                · have jz : (0 : Int) < (nd : Int) := by omega
                  have HR1 := Lib.hid (show rightB R (k + 1) = decide (0 < nd) from by unfold rightB; rw [HRB.out, HM.out, HND.out, if_pos rfl]; by_cases h : 0 < nd <;> simp [h] <;> omega)
                  clear hz
                  go_wp2_with (go_at_call 11; refine (HNE.out _).mono ?_; rintro e w5 ⟨rfl, hw5⟩; subst hw5)
                  exact ⟨⟨k + 1, by have := HKN.out; omega, by rw [HS1.out]; go_num, by rw [HR1.out], by rw [Int.natCast_add]; rfl, by first | rfl | trivial⟩, by simp [intOf]; have := HKN.out; omega⟩
            · obtain rfl : k = n2 := by omega
              have jk : ¬ ((k : Int) < (k : Int)) := by omega
              clear hkn hk
              have hgi : g ≤ i ∧ i ≤ 11 := ⟨HI.out.2, by have := HL12.out; have := HLT.out; omega⟩
              have HGI := Lib.hid hgi
              have HCO := Lib.hid (HGN4.out.compact (c := c2) (by omega) hgi.1 (HR.out.below HB1.out) HN40.out)
              have hgI : (g : Int) ≤ 11 := by omega
              by_cases hok : rb = true ∧ sm ≤ 99
              · obtain ⟨rfl, hs99⟩ := hok
                have HC1 : Hid (Calls Try.prog 12 #[.pointer (some ⟨gl, 0, none⟩), .slice A2 k c2] w4 fun e w' => e = .returned (.int .i64 0) ∧ Gc w1 w' gl gd (g + 1) (i + 1) sm (recsOf R k)) := Lib.hid (HCO.out.mono fun e w' h => by
                  rcases h with ⟨_, h1, h2⟩ | ⟨h1, _⟩
                  · rw [HSM.out] at h2
                    exact ⟨h1, h2⟩
                  · rw [HRB.out, HSM.out] at h1
                    exact absurd ⟨rfl, hs99⟩ h1)
                have j99 : ¬ ((sm : Int) > 99) := by omega
                have hsI : (sm : Int) ≤ 99 := by omega
                have hwg : IntKind.u32.wrap ((g : Int) + 1) = ((g + 1 : Nat) : Int) := by rw [IntWalk.u32_in _ (by omega)]; omega
                have HRL : Hid ((recsOf R k).length = k) := Lib.hid (by unfold recsOf; simp)
                have HBI := Lib.hid (fun (u : World) (hu : Below w.heap.size w u) => (show RowsBy u (.slice A2 k c2) (recsOf R k) from recs_in (HR.out.below hu)))
                clear HCO hs99 hgi
                go_upto_region 28 with (go_at_call 12; refine HC1.out.mono ?_; rintro e w5 ⟨rfl, h5⟩; have H5 := Lib.hid h5; have HB5 := Lib.hid (bbt HB1.out h5.bel); clear h5)
                rw [show ((g : Int) + 1) = ((g + 1 : Nat) : Int) from by omega]
                have HG2 := Lib.hid (show g + 1 ≤ i + 1 from by have := HGI.out; omega)
                generalize hg2 : g + 1 = g2 at *
                clear hg2 hwg
                have hws : IntKind.i64.wrap ((99 : Int) - (sm : Int)) = (99 : Int) - (sm : Int) := IntWalk.i64_in _ (by omega)
                have B5 := Lib.hid (show Below w5.heap.size w5 w5.drew from Below.drew_ (Below.refl _ _))
                have HW5 := Lib.hid (bbt HB5.out B5.out)
                have C5 := Lib.hid (HC.out w5.drew HW5.out)
                have G5 := Lib.hid (H5.out.below B5.out)
                have GN5 := Lib.hid G5.out.gen
                have US5 := Lib.hid G5.out.used
                clear c4
                have c5 := C5.out
                refine wp_region_held_drew (S := (fun w' => w'.cell? (ad.add i) = some (.slice A2 k c2))) (by kernel_rfl) ?_ (fun hHeld => ?_)
                · (first | exact C5.out | exact C6.out | exact C7.out | exact C8.out | exact C9.out | exact C11.out | exact C12.out | exact C13.out)
                refine wpAnyH_take (i := 0) (v := ?_) rfl (by kernel_rfl) (by kernel_rfl) (by kernel_rfl) (fun _ _ _ h => h) (Or.inl ⟨by kernel_rfl, ?_⟩) (by assumption) ?_
                rotate_left
                · intro w hSw; (try dsimp only at hSw); go_simp <;> (try with_reducible rfl)
                (try simp only [Act.put, List.setIfInBounds_toArray, List.set_cons_zero, List.set_cons_succ, List.getElem_toArray, List.getElem_cons_succ, List.getElem_cons_zero])
                refine wpAnyH_take (i := 1) (v := ?_) rfl (by kernel_rfl) (by kernel_rfl) (by kernel_rfl) (fun _ _ _ h => h) (Or.inl ⟨by kernel_rfl, ?_⟩) (by assumption) ?_
                rotate_left
                · intro w hSw; (try dsimp only at hSw); go_simp <;> (try with_reducible rfl)
                (try simp only [Act.put, List.setIfInBounds_toArray, List.set_cons_zero, List.set_cons_succ, List.getElem_toArray, List.getElem_cons_succ, List.getElem_cons_zero])
                refine wpAnyH_take (i := 2) (v := ?_) rfl (by kernel_rfl) (by kernel_rfl) (by kernel_rfl) (fun _ _ _ h => h) (Or.inl ⟨by kernel_rfl, ?_⟩) (by assumption) ?_
                rotate_left
                · intro w hSw; (try dsimp only at hSw); go_simp <;> (try with_reducible rfl)
                (try simp only [Act.put, List.setIfInBounds_toArray, List.set_cons_zero, List.set_cons_succ, List.getElem_toArray, List.getElem_cons_succ, List.getElem_cons_zero])
                refine wpAnyH_take (i := 3) (v := ?_) rfl (by kernel_rfl) (by kernel_rfl) (by kernel_rfl) (fun _ _ _ h => h) (Or.inl ⟨by kernel_rfl, ?_⟩) (by assumption) ?_
                rotate_left
                · intro w hSw; (try dsimp only at hSw); go_simp <;> (try with_reducible rfl)
                (try simp only [Act.put, List.setIfInBounds_toArray, List.set_cons_zero, List.set_cons_succ, List.getElem_toArray, List.getElem_cons_succ, List.getElem_cons_zero])
                refine wpAnyH_take (i := 5) (v := ?_) rfl (by kernel_rfl) (by kernel_rfl) (by kernel_rfl) (fun _ _ _ h => h) (Or.inl ⟨by kernel_rfl, ?_⟩) (by assumption) ?_
                rotate_left
                · intro w hSw; (try dsimp only at hSw); go_simp <;> (try with_reducible rfl)
                (try simp only [Act.put, List.setIfInBounds_toArray, List.set_cons_zero, List.set_cons_succ, List.getElem_toArray, List.getElem_cons_succ, List.getElem_cons_zero])
                refine wpAnyH_ready (rs := [4]) (by kernel_rfl) (by simp) ?_
                refine AllReadyH.cons rfl (fun K hK => ?_) AllReadyH.nil
                go_simp
                go_at_call 13
                refine GN5.out.mono ?_
                rintro e w6 ⟨rfl, hw6⟩
                subst hw6
                refine hK.out _ _ ?_ (fun hHeld => ?_)
                · (try dsimp only); (first | exact C5.out | exact C6.out | exact C7.out | exact C8.out | exact C9.out | exact C11.out | exact C12.out | exact C13.out)
                clear hK K
                (try simp only [Act.put, List.setIfInBounds_toArray, List.set_cons_zero, List.set_cons_succ, List.getElem_toArray, List.getElem_cons_succ, List.getElem_cons_zero])
                refine wpAnyH_take (i := 6) (v := ?_) rfl (by kernel_rfl) (by kernel_rfl) (by kernel_rfl) (fun _ _ _ h => h) (Or.inl ⟨by kernel_rfl, ?_⟩) (by assumption) ?_
                rotate_left
                · intro w hSw; (try dsimp only at hSw); go_simp <;> (try with_reducible rfl)
                (try simp only [Act.put, List.setIfInBounds_toArray, List.set_cons_zero, List.set_cons_succ, List.getElem_toArray, List.getElem_cons_succ, List.getElem_cons_zero])
                refine wpAnyH_take (i := 7) (v := ?_) rfl (by kernel_rfl) (by kernel_rfl) (by kernel_rfl) (fun _ _ _ h => h) (Or.inl ⟨by kernel_rfl, ?_⟩) (by assumption) ?_
                rotate_left
                · intro w hSw; (try dsimp only at hSw); go_simp <;> (try with_reducible rfl)
                (try simp only [Act.put, List.setIfInBounds_toArray, List.set_cons_zero, List.set_cons_succ, List.getElem_toArray, List.getElem_cons_succ, List.getElem_cons_zero])
                refine wpAnyH_take (i := 8) (v := ?_) rfl (by kernel_rfl) (by kernel_rfl) (by kernel_rfl) (fun _ _ _ h => h) (Or.inl ⟨by kernel_rfl, ?_⟩) (by assumption) ?_
                rotate_left
                · intro w hSw; (try dsimp only at hSw); go_simp <;> (try with_reducible rfl)
                (try simp only [Act.put, List.setIfInBounds_toArray, List.set_cons_zero, List.set_cons_succ, List.getElem_toArray, List.getElem_cons_succ, List.getElem_cons_zero])
                refine wpAnyH_take (i := 9) (v := ?_) rfl (by kernel_rfl) (by kernel_rfl) (by kernel_rfl) (fun _ _ _ h => h) (Or.inl ⟨by kernel_rfl, ?_⟩) (by assumption) ?_
                rotate_left
                · intro w hSw; (try dsimp only at hSw); go_simp <;> (try with_reducible rfl)
                (try simp only [Act.put, List.setIfInBounds_toArray, List.set_cons_zero, List.set_cons_succ, List.getElem_toArray, List.getElem_cons_succ, List.getElem_cons_zero])
                refine wpAnyH_take (i := 11) (v := ?_) rfl (by kernel_rfl) (by kernel_rfl) (by kernel_rfl) (fun _ _ _ h => h) (Or.inl ⟨by kernel_rfl, ?_⟩) (by assumption) ?_
                rotate_left
                · intro w hSw; (try dsimp only at hSw); go_simp <;> (try with_reducible rfl)
                (try simp only [Act.put, List.setIfInBounds_toArray, List.set_cons_zero, List.set_cons_succ, List.getElem_toArray, List.getElem_cons_succ, List.getElem_cons_zero])
                refine wpAnyH_ready (rs := [10]) (by kernel_rfl) (by simp) ?_
                refine AllReadyH.cons rfl (fun K hK => ?_) AllReadyH.nil
                go_simp
                go_at_call 14
                refine US5.out.mono ?_
                rintro e w6 ⟨rfl, hb6⟩
                have G6 := Lib.hid (G5.out.below hb6)
                have HW6 := Lib.hid (bbt HW5.out hb6)
                have C6 := Lib.hid (HC.out w6 HW6.out)
                have FR6 := Lib.hid G6.out.free
                clear hb6
                refine hK.out _ _ ?_ (fun hHeld => ?_)
                · (try dsimp only); (first | exact C5.out | exact C6.out | exact C7.out | exact C8.out | exact C9.out | exact C11.out | exact C12.out | exact C13.out)
                clear hK K
                (try simp only [Act.put, List.setIfInBounds_toArray, List.set_cons_zero, List.set_cons_succ, List.getElem_toArray, List.getElem_cons_succ, List.getElem_cons_zero])
                refine wpAnyH_take (i := 12) (v := ?_) rfl (by kernel_rfl) (by kernel_rfl) (by kernel_rfl) (fun _ _ _ h => h) (Or.inl ⟨by kernel_rfl, ?_⟩) (by assumption) ?_
                rotate_left
                · intro w hSw; (try dsimp only at hSw); go_simp <;> (try with_reducible rfl)
                (try simp only [Act.put, List.setIfInBounds_toArray, List.set_cons_zero, List.set_cons_succ, List.getElem_toArray, List.getElem_cons_succ, List.getElem_cons_zero])
                refine wpAnyH_take (i := 13) (v := ?_) rfl (by kernel_rfl) (by kernel_rfl) (by kernel_rfl) (fun _ _ _ h => h) (Or.inl ⟨by kernel_rfl, ?_⟩) (by assumption) ?_
                rotate_left
                · intro w hSw; (try dsimp only at hSw); go_simp <;> (try with_reducible rfl)
                (try simp only [Act.put, List.setIfInBounds_toArray, List.set_cons_zero, List.set_cons_succ, List.getElem_toArray, List.getElem_cons_succ, List.getElem_cons_zero])
                refine wpAnyH_take (i := 14) (v := ?_) rfl (by kernel_rfl) (by kernel_rfl) (by kernel_rfl) (fun _ _ _ h => h) (Or.inl ⟨by kernel_rfl, ?_⟩) (by assumption) ?_
                rotate_left
                · intro w hSw; (try dsimp only at hSw); go_simp <;> (try with_reducible rfl)
                (try simp only [Act.put, List.setIfInBounds_toArray, List.set_cons_zero, List.set_cons_succ, List.getElem_toArray, List.getElem_cons_succ, List.getElem_cons_zero])
                refine wpAnyH_take (i := 15) (v := ?_) rfl (by kernel_rfl) (by kernel_rfl) (by kernel_rfl) (fun _ _ _ h => h) (Or.inl ⟨by kernel_rfl, ?_⟩) (by assumption) ?_
                rotate_left
                · intro w hSw; (try dsimp only at hSw); go_simp <;> (try with_reducible rfl)
                (try simp only [Act.put, List.setIfInBounds_toArray, List.set_cons_zero, List.set_cons_succ, List.getElem_toArray, List.getElem_cons_succ, List.getElem_cons_zero])
                refine wpAnyH_take (i := 17) (v := ?_) rfl (by kernel_rfl) (by kernel_rfl) (by kernel_rfl) (fun _ _ _ h => h) (Or.inl ⟨by kernel_rfl, ?_⟩) (by assumption) ?_
                rotate_left
                · intro w hSw; (try dsimp only at hSw); go_simp <;> (try with_reducible rfl)
                (try simp only [Act.put, List.setIfInBounds_toArray, List.set_cons_zero, List.set_cons_succ, List.getElem_toArray, List.getElem_cons_succ, List.getElem_cons_zero])
                refine wpAnyH_take (i := 18) (v := ?_) rfl (by kernel_rfl) (by kernel_rfl) (by kernel_rfl) (fun _ _ _ h => h) (Or.inl ⟨by kernel_rfl, ?_⟩) (by assumption) ?_
                rotate_left
                · intro w hSw; (try dsimp only at hSw); go_simp <;> (try with_reducible rfl)
                (try simp only [Act.put, List.setIfInBounds_toArray, List.set_cons_zero, List.set_cons_succ, List.getElem_toArray, List.getElem_cons_succ, List.getElem_cons_zero])
                refine wpAnyH_ready (rs := [16]) (by kernel_rfl) (by simp) ?_
                refine AllReadyH.cons rfl (fun K hK => ?_) AllReadyH.nil
                go_simp
                go_at_call 15
                refine FR6.out.mono ?_
                rintro e w7 ⟨rfl, hb7⟩
                have G7 := Lib.hid (G6.out.below hb7)
                have HW7 := Lib.hid (bbt HW6.out hb7)
                have C7 := Lib.hid (HC.out w7 HW7.out)
                have RC7 := Lib.hid G7.out.records
                clear hb7
                refine hK.out _ _ ?_ (fun hHeld => ?_)
                · (try dsimp only); (first | exact C5.out | exact C6.out | exact C7.out | exact C8.out | exact C9.out | exact C11.out | exact C12.out | exact C13.out)
                clear hK K
                (try simp only [Act.put, List.setIfInBounds_toArray, List.set_cons_zero, List.set_cons_succ, List.getElem_toArray, List.getElem_cons_succ, List.getElem_cons_zero])
                refine wpAnyH_take (i := 19) (v := ?_) rfl (by kernel_rfl) (by kernel_rfl) (by kernel_rfl) (fun _ _ _ h => h) (Or.inl ⟨by kernel_rfl, ?_⟩) (by assumption) ?_
                rotate_left
                · intro w hSw; (try dsimp only at hSw); go_simp <;> (try with_reducible rfl)
                (try simp only [Act.put, List.setIfInBounds_toArray, List.set_cons_zero, List.set_cons_succ, List.getElem_toArray, List.getElem_cons_succ, List.getElem_cons_zero])
                refine wpAnyH_take (i := 20) (v := ?_) rfl (by kernel_rfl) (by kernel_rfl) (by kernel_rfl) (fun _ _ _ h => h) (Or.inl ⟨by kernel_rfl, ?_⟩) (by assumption) ?_
                rotate_left
                · intro w hSw; (try dsimp only at hSw); go_simp <;> (try with_reducible rfl)
                (try simp only [Act.put, List.setIfInBounds_toArray, List.set_cons_zero, List.set_cons_succ, List.getElem_toArray, List.getElem_cons_succ, List.getElem_cons_zero])
                refine wpAnyH_take (i := 21) (v := ?_) rfl (by kernel_rfl) (by kernel_rfl) (by kernel_rfl) (fun _ _ _ h => h) (Or.inl ⟨by kernel_rfl, ?_⟩) (by assumption) ?_
                rotate_left
                · intro w hSw; (try dsimp only at hSw); go_simp <;> (try with_reducible rfl)
                (try simp only [Act.put, List.setIfInBounds_toArray, List.set_cons_zero, List.set_cons_succ, List.getElem_toArray, List.getElem_cons_succ, List.getElem_cons_zero])
                refine wpAnyH_take (i := 22) (v := ?_) rfl (by kernel_rfl) (by kernel_rfl) (by kernel_rfl) (fun _ _ _ h => h) (Or.inl ⟨by kernel_rfl, ?_⟩) (by assumption) ?_
                rotate_left
                · intro w hSw; (try dsimp only at hSw); go_simp <;> (try with_reducible rfl)
                (try simp only [Act.put, List.setIfInBounds_toArray, List.set_cons_zero, List.set_cons_succ, List.getElem_toArray, List.getElem_cons_succ, List.getElem_cons_zero])
                refine wpAnyH_take (i := 24) (v := ?_) rfl (by kernel_rfl) (by kernel_rfl) (by kernel_rfl) (fun _ _ _ h => h) (Or.inl ⟨by kernel_rfl, ?_⟩) (by assumption) ?_
                rotate_left
                · intro w hSw; (try dsimp only at hSw); go_simp <;> (try with_reducible rfl)
                (try simp only [Act.put, List.setIfInBounds_toArray, List.set_cons_zero, List.set_cons_succ, List.getElem_toArray, List.getElem_cons_succ, List.getElem_cons_zero])
                refine wpAnyH_take (i := 25) (v := ?_) rfl (by kernel_rfl) (by kernel_rfl) (by kernel_rfl) (fun _ _ _ h => h) (Or.inl ⟨by kernel_rfl, ?_⟩) (by assumption) ?_
                rotate_left
                · intro w hSw; (try dsimp only at hSw); go_simp <;> (try with_reducible rfl)
                (try simp only [Act.put, List.setIfInBounds_toArray, List.set_cons_zero, List.set_cons_succ, List.getElem_toArray, List.getElem_cons_succ, List.getElem_cons_zero])
                refine wpAnyH_take (i := 26) (v := ?_) rfl (by kernel_rfl) (by kernel_rfl) (by kernel_rfl) (fun _ _ _ h => h) (Or.inl ⟨by kernel_rfl, ?_⟩) (by assumption) ?_
                rotate_left
                · intro w hSw; (try dsimp only at hSw); go_simp <;> (try with_reducible rfl)
                (try simp only [Act.put, List.setIfInBounds_toArray, List.set_cons_zero, List.set_cons_succ, List.getElem_toArray, List.getElem_cons_succ, List.getElem_cons_zero])
                refine wpAnyH_take (i := 27) (v := ?_) rfl (by kernel_rfl) (by kernel_rfl) (by kernel_rfl) (fun _ _ _ h => h) (Or.inl ⟨by kernel_rfl, ?_⟩) (by assumption) ?_
                rotate_left
                · intro w hSw; (try dsimp only at hSw); go_simp <;> (try with_reducible rfl)
                (try simp only [Act.put, List.setIfInBounds_toArray, List.set_cons_zero, List.set_cons_succ, List.getElem_toArray, List.getElem_cons_succ, List.getElem_cons_zero])
                refine wpAnyH_ready (rs := [23]) (by kernel_rfl) (by simp) ?_
                refine AllReadyH.cons rfl (fun K hK => ?_) AllReadyH.nil
                go_simp
                go_at_call 17
                refine RC7.out.mono ?_
                rintro e w8 ⟨A8, c8, rfl, hr8, hb8⟩
                have G8 := Lib.hid (G7.out.below hb8)
                have HW8 := Lib.hid (bbt HW7.out hb8)
                have C8 := Lib.hid (HC.out w8 HW8.out)
                have AL8 := Lib.hid (alikeL_yes hr8 (HBI.out w8 HW8.out) (SameL.refl _) (by rw [HRL.out]; have := HN40.out; omega))
                clear hr8 hb8
                refine hK.out _ _ ?_ (fun hHeld => ?_)
                · (try dsimp only); (first | exact C5.out | exact C6.out | exact C7.out | exact C8.out | exact C9.out | exact C11.out | exact C12.out | exact C13.out)
                clear hK K
                (try simp only [Act.put, List.setIfInBounds_toArray, List.set_cons_zero, List.set_cons_succ, List.getElem_toArray, List.getElem_cons_succ, List.getElem_cons_zero])
                refine wpAnyH_ready (rs := [28]) (by kernel_rfl) (by simp) ?_
                refine AllReadyH.cons rfl (fun K hK => ?_) AllReadyH.nil
                go_simp
                go_at_call 16
                refine AL8.out.mono ?_
                rintro e w9 ⟨rfl, hb9⟩
                have G9 := Lib.hid (G8.out.below hb9)
                have HW9 := Lib.hid (bbt HW8.out hb9)
                have C9 := Lib.hid (HC.out w9 HW9.out)
                clear hb9
                refine hK.out _ _ ?_ (fun hHeld => ?_)
                · (try dsimp only); (first | exact C5.out | exact C6.out | exact C7.out | exact C8.out | exact C9.out | exact C11.out | exact C12.out | exact C13.out)
                clear hK K
                (try simp only [Act.put, List.setIfInBounds_toArray, List.set_cons_zero, List.set_cons_succ, List.getElem_toArray, List.getElem_cons_succ, List.getElem_cons_zero])
                refine wpAnyH_take (i := 29) (v := ?_) rfl (by kernel_rfl) (by kernel_rfl) (by kernel_rfl) (fun _ _ _ h => h) (Or.inl ⟨by kernel_rfl, ?_⟩) (by assumption) ?_
                rotate_left
                · intro w hSw; (try dsimp only at hSw); go_simp <;> (try with_reducible rfl)
                (try simp only [Act.put, List.setIfInBounds_toArray, List.set_cons_zero, List.set_cons_succ, List.getElem_toArray, List.getElem_cons_succ, List.getElem_cons_zero])
                refine wpAnyH_take (i := 30) (v := ?_) rfl (by kernel_rfl) (by kernel_rfl) (by kernel_rfl) (fun _ _ _ h => h) (Or.inl ⟨by kernel_rfl, ?_⟩) (by assumption) ?_
                rotate_left
                · intro w hSw; (try dsimp only at hSw); go_simp <;> (try with_reducible rfl)
                (try simp only [Act.put, List.setIfInBounds_toArray, List.set_cons_zero, List.set_cons_succ, List.getElem_toArray, List.getElem_cons_succ, List.getElem_cons_zero])
                refine wpAnyH_done (by kernel_rfl) ?_ _
                have UP9 := Lib.hid G9.out.up
                have HOP2 := Lib.hid (fun (u : World) (h : ∃ M, M ≤ 200 * (i + 1) ∧ Dg w1 u gd 200 M g2 sm (recsOf R k) (fun _ => False)) => gc_open h)
                clear c5
                go_upto_region 32 with (first
                  | (go_at_call 18; refine UP9.out.mono ?_; rintro e w10 ⟨rfl, h10⟩; have H10 := Lib.hid h10; clear h10)
                  | (go_at_call 9; refine (HOP2.out _ H10.out).mono ?_; rintro e w11 ⟨g11, rs11, rfl, hs11, h11⟩; have S11 := Lib.hid hs11; have H11 := Lib.hid h11; clear hs11 h11))
                have B11 := Lib.hid (show Below w11.heap.size w11 w11.drew from Below.drew_ (Below.refl _ _))
                have HW11 := Lib.hid (bbt (bbt HB1.out H11.out.bel) B11.out)
                have C11 := Lib.hid (HC.out w11.drew HW11.out)
                have G11 := Lib.hid (H11.out.below B11.out)
                have GN11 := Lib.hid G11.out.gen
                have RC11 := Lib.hid G11.out.records
                have LN11 := Lib.hid S11.out.len
                refine wp_region_held_drew (S := (fun w' => w'.cell? (ad.add i) = some (.slice A2 k c2))) (by kernel_rfl) ?_ (fun hHeld => ?_)
                · (first | exact C5.out | exact C6.out | exact C7.out | exact C8.out | exact C9.out | exact C11.out | exact C12.out | exact C13.out)
                refine wpAnyH_take (i := 0) (v := ?_) rfl (by kernel_rfl) (by kernel_rfl) (by kernel_rfl) (fun _ _ _ h => h) (Or.inl ⟨by kernel_rfl, ?_⟩) (by assumption) ?_
                rotate_left
                · intro w hSw; (try dsimp only at hSw); go_simp <;> (try with_reducible rfl)
                (try simp only [Act.put, List.setIfInBounds_toArray, List.set_cons_zero, List.set_cons_succ, List.getElem_toArray, List.getElem_cons_succ, List.getElem_cons_zero])
                refine wpAnyH_take (i := 1) (v := ?_) rfl (by kernel_rfl) (by kernel_rfl) (by kernel_rfl) (fun _ _ _ h => h) (Or.inl ⟨by kernel_rfl, ?_⟩) (by assumption) ?_
                rotate_left
                · intro w hSw; (try dsimp only at hSw); go_simp <;> (try with_reducible rfl)
                (try simp only [Act.put, List.setIfInBounds_toArray, List.set_cons_zero, List.set_cons_succ, List.getElem_toArray, List.getElem_cons_succ, List.getElem_cons_zero])
                refine wpAnyH_take (i := 2) (v := ?_) rfl (by kernel_rfl) (by kernel_rfl) (by kernel_rfl) (fun _ _ _ h => h) (Or.inl ⟨by kernel_rfl, ?_⟩) (by assumption) ?_
                rotate_left
                · intro w hSw; (try dsimp only at hSw); go_simp <;> (try with_reducible rfl)
                (try simp only [Act.put, List.setIfInBounds_toArray, List.set_cons_zero, List.set_cons_succ, List.getElem_toArray, List.getElem_cons_succ, List.getElem_cons_zero])
                refine wpAnyH_take (i := 3) (v := ?_) rfl (by kernel_rfl) (by kernel_rfl) (by kernel_rfl) (fun _ _ _ h => h) (Or.inl ⟨by kernel_rfl, ?_⟩) (by assumption) ?_
                rotate_left
                · intro w hSw; (try dsimp only at hSw); go_simp <;> (try with_reducible rfl)
                (try simp only [Act.put, List.setIfInBounds_toArray, List.set_cons_zero, List.set_cons_succ, List.getElem_toArray, List.getElem_cons_succ, List.getElem_cons_zero])
                refine wpAnyH_take (i := 5) (v := ?_) rfl (by kernel_rfl) (by kernel_rfl) (by kernel_rfl) (fun _ _ _ h => h) (Or.inl ⟨by kernel_rfl, ?_⟩) (by assumption) ?_
                rotate_left
                · intro w hSw; (try dsimp only at hSw); go_simp <;> (try with_reducible rfl)
                (try simp only [Act.put, List.setIfInBounds_toArray, List.set_cons_zero, List.set_cons_succ, List.getElem_toArray, List.getElem_cons_succ, List.getElem_cons_zero])
                refine wpAnyH_ready (rs := [4]) (by kernel_rfl) (by simp) ?_
                refine AllReadyH.cons rfl (fun K hK => ?_) AllReadyH.nil
                go_simp
                go_at_call 13
                refine GN11.out.mono ?_
                rintro e w12 ⟨rfl, hw12⟩
                subst hw12
                refine hK.out _ _ ?_ (fun hHeld => ?_)
                · (try dsimp only); (first | exact C5.out | exact C6.out | exact C7.out | exact C8.out | exact C9.out | exact C11.out | exact C12.out | exact C13.out)
                clear hK K
                (try simp only [Act.put, List.setIfInBounds_toArray, List.set_cons_zero, List.set_cons_succ, List.getElem_toArray, List.getElem_cons_succ, List.getElem_cons_zero])
                refine wpAnyH_take (i := 6) (v := ?_) rfl (by kernel_rfl) (by kernel_rfl) (by kernel_rfl) (fun _ _ _ h => h) (Or.inl ⟨by kernel_rfl, ?_⟩) (by assumption) ?_
                rotate_left
                · intro w hSw; (try dsimp only at hSw); go_simp <;> (try with_reducible rfl)
                (try simp only [Act.put, List.setIfInBounds_toArray, List.set_cons_zero, List.set_cons_succ, List.getElem_toArray, List.getElem_cons_succ, List.getElem_cons_zero])
                refine wpAnyH_take (i := 7) (v := ?_) rfl (by kernel_rfl) (by kernel_rfl) (by kernel_rfl) (fun _ _ _ h => h) (Or.inl ⟨by kernel_rfl, ?_⟩) (by assumption) ?_
                rotate_left
                · intro w hSw; (try dsimp only at hSw); go_simp <;> (try with_reducible rfl)
                (try simp only [Act.put, List.setIfInBounds_toArray, List.set_cons_zero, List.set_cons_succ, List.getElem_toArray, List.getElem_cons_succ, List.getElem_cons_zero])
                refine wpAnyH_take (i := 8) (v := ?_) rfl (by kernel_rfl) (by kernel_rfl) (by kernel_rfl) (fun _ _ _ h => h) (Or.inl ⟨by kernel_rfl, ?_⟩) (by assumption) ?_
                rotate_left
                · intro w hSw; (try dsimp only at hSw); go_simp <;> (try with_reducible rfl)
                (try simp only [Act.put, List.setIfInBounds_toArray, List.set_cons_zero, List.set_cons_succ, List.getElem_toArray, List.getElem_cons_succ, List.getElem_cons_zero])
                refine wpAnyH_take (i := 9) (v := ?_) rfl (by kernel_rfl) (by kernel_rfl) (by kernel_rfl) (fun _ _ _ h => h) (Or.inl ⟨by kernel_rfl, ?_⟩) (by assumption) ?_
                rotate_left
                · intro w hSw; (try dsimp only at hSw); go_simp <;> (try with_reducible rfl)
                (try simp only [Act.put, List.setIfInBounds_toArray, List.set_cons_zero, List.set_cons_succ, List.getElem_toArray, List.getElem_cons_succ, List.getElem_cons_zero])
                refine wpAnyH_take (i := 11) (v := ?_) rfl (by kernel_rfl) (by kernel_rfl) (by kernel_rfl) (fun _ _ _ h => h) (Or.inl ⟨by kernel_rfl, ?_⟩) (by assumption) ?_
                rotate_left
                · intro w hSw; (try dsimp only at hSw); go_simp <;> (try with_reducible rfl)
                (try simp only [Act.put, List.setIfInBounds_toArray, List.set_cons_zero, List.set_cons_succ, List.getElem_toArray, List.getElem_cons_succ, List.getElem_cons_zero])
                refine wpAnyH_take (i := 12) (v := ?_) rfl (by kernel_rfl) (by kernel_rfl) (by kernel_rfl) (fun _ _ _ h => h) (Or.inl ⟨by kernel_rfl, ?_⟩) (by assumption) ?_
                rotate_left
                · intro w hSw; (try dsimp only at hSw); go_simp <;> (try with_reducible rfl)
                (try simp only [Act.put, List.setIfInBounds_toArray, List.set_cons_zero, List.set_cons_succ, List.getElem_toArray, List.getElem_cons_succ, List.getElem_cons_zero])
                refine wpAnyH_take (i := 13) (v := ?_) rfl (by kernel_rfl) (by kernel_rfl) (by kernel_rfl) (fun _ _ _ h => h) (Or.inl ⟨by kernel_rfl, ?_⟩) (by assumption) ?_
                rotate_left
                · intro w hSw; (try dsimp only at hSw); go_simp <;> (try with_reducible rfl)
                (try simp only [Act.put, List.setIfInBounds_toArray, List.set_cons_zero, List.set_cons_succ, List.getElem_toArray, List.getElem_cons_succ, List.getElem_cons_zero])
                refine wpAnyH_take (i := 14) (v := ?_) rfl (by kernel_rfl) (by kernel_rfl) (by kernel_rfl) (fun _ _ _ h => h) (Or.inl ⟨by kernel_rfl, ?_⟩) (by assumption) ?_
                rotate_left
                · intro w hSw; (try dsimp only at hSw); go_simp <;> (try with_reducible rfl)
                (try simp only [Act.put, List.setIfInBounds_toArray, List.set_cons_zero, List.set_cons_succ, List.getElem_toArray, List.getElem_cons_succ, List.getElem_cons_zero])
                refine wpAnyH_ready (rs := [10]) (by kernel_rfl) (by simp) ?_
                refine AllReadyH.cons rfl (fun K hK => ?_) AllReadyH.nil
                go_simp
                go_at_call 17
                refine RC11.out.mono ?_
                rintro e w12 ⟨A12, c12, rfl, hr12, hb12⟩
                have HW12 := Lib.hid (bbt HW11.out hb12)
                have C12 := Lib.hid (HC.out w12 HW12.out)
                have G12 := Lib.hid (G11.out.below hb12)
                have AL12 := Lib.hid (alikeL_yes hr12 (HBI.out w12 HW12.out) S11.out.symm (by rw [← LN11.out, HRL.out]; have := HN40.out; omega))
                clear hr12 hb12
                refine hK.out _ _ ?_ (fun hHeld => ?_)
                · (try dsimp only); (first | exact C5.out | exact C6.out | exact C7.out | exact C8.out | exact C9.out | exact C11.out | exact C12.out | exact C13.out)
                clear hK K
                (try simp only [Act.put, List.setIfInBounds_toArray, List.set_cons_zero, List.set_cons_succ, List.getElem_toArray, List.getElem_cons_succ, List.getElem_cons_zero])
                refine wpAnyH_ready (rs := [15]) (by kernel_rfl) (by simp) ?_
                refine AllReadyH.cons rfl (fun K hK => ?_) AllReadyH.nil
                go_simp
                go_at_call 16
                refine AL12.out.mono ?_
                rintro e w13 ⟨rfl, hb13⟩
                have G13 := Lib.hid (G12.out.below hb13)
                have HW13 := Lib.hid (bbt HW12.out hb13)
                have C13 := Lib.hid (HC.out w13 HW13.out)
                clear hb13
                refine hK.out _ _ ?_ (fun hHeld => ?_)
                · (try dsimp only); (first | exact C5.out | exact C6.out | exact C7.out | exact C8.out | exact C9.out | exact C11.out | exact C12.out | exact C13.out)
                clear hK K
                (try simp only [Act.put, List.setIfInBounds_toArray, List.set_cons_zero, List.set_cons_succ, List.getElem_toArray, List.getElem_cons_succ, List.getElem_cons_zero])
                refine wpAnyH_take (i := 16) (v := ?_) rfl (by kernel_rfl) (by kernel_rfl) (by kernel_rfl) (fun _ _ _ h => h) (Or.inl ⟨by kernel_rfl, ?_⟩) (by assumption) ?_
                rotate_left
                · intro w hSw; (try dsimp only at hSw); go_simp <;> (try with_reducible rfl)
                (try simp only [Act.put, List.setIfInBounds_toArray, List.set_cons_zero, List.set_cons_succ, List.getElem_toArray, List.getElem_cons_succ, List.getElem_cons_zero])
                refine wpAnyH_take (i := 17) (v := ?_) rfl (by kernel_rfl) (by kernel_rfl) (by kernel_rfl) (fun _ _ _ h => h) (Or.inl ⟨by kernel_rfl, ?_⟩) (by assumption) ?_
                rotate_left
                · intro w hSw; (try dsimp only at hSw); go_simp <;> (try with_reducible rfl)
                (try simp only [Act.put, List.setIfInBounds_toArray, List.set_cons_zero, List.set_cons_succ, List.getElem_toArray, List.getElem_cons_succ, List.getElem_cons_zero])
                refine wpAnyH_done (by kernel_rfl) ?_ _
                go_wp2
                refine ⟨⟨g11, g2, i + 1, rfl, rfl, by rw [Int.natCast_add]; rfl, by have := HLT.out; omega, HG2.out, ?_⟩, by simp [intOf]; have := HLT.out; omega⟩
                obtain ⟨M, m1, m2⟩ := G13.out
                exact ⟨M, sm, rs11, m1, m2⟩
              · have HC1 : Hid (Calls Try.prog 12 #[.pointer (some ⟨gl, 0, none⟩), .slice A2 k c2] w4 fun e w' => (∃ q : Int, q ≠ 0 ∧ e = .returned (.int .i64 q)) ∧ Gn w1 w' gl gd g i) := Lib.hid (HCO.out.mono fun e w' h => by
                  rcases h with ⟨h1, _⟩ | ⟨_, h1, h2⟩
                  · rw [HRB.out, HSM.out] at h1
                    exact absurd h1 hok
                  · exact ⟨h1, h2⟩)
                have HGM := Lib.hid (fun (u : World) (h : Gn w1 u gl gd g i) => (show Gn w1 u gl gd g (i + 1) from by obtain ⟨M, used, rs, h1, h2⟩ := h; exact ⟨M, used, rs, by omega, h2⟩))
                clear HCO
                cases rb
                · clear hok hgi
                  go_wp2_with (go_at_call 12; refine HC1.out.mono ?_; rintro e w5 ⟨⟨q, hq, rfl⟩, h5⟩; have H5 := Lib.hid h5; have hq2 : (q == 0) = false := (by rw [beq_eq_false_iff_ne]; exact hq); clear h5)
                  exact ⟨⟨gl, g, i + 1, rfl, rfl, by rw [Int.natCast_add]; rfl, by have := HLT.out; omega, by have := HGI.out; omega, HGM.out _ H5.out⟩, by simp [intOf]; have := HLT.out; omega⟩
                · have j99 : (sm : Int) > 99 := by
                    have : ¬ sm ≤ 99 := fun h => hok ⟨rfl, h⟩
                    omega
                  clear hok hgi
                  go_wp2_with (go_at_call 12; refine HC1.out.mono ?_; rintro e w5 ⟨⟨q, hq, rfl⟩, h5⟩; have H5 := Lib.hid h5; have hq2 : (q == 0) = false := (by rw [beq_eq_false_iff_ne]; exact hq); clear h5)
                  exact ⟨⟨gl, g, i + 1, rfl, rfl, by rw [Int.natCast_add]; rfl, by have := HLT.out; omega, by have := HGI.out; omega, HGM.out _ H5.out⟩, by simp [intOf]; have := HLT.out; omega⟩
      · obtain rfl : i = len := by have := HI.out.1; omega
        have j1 : ¬ ((i : Int) < (i : Int)) := by omega
        clear hlt
        go_wp2
        go_ret
        exact ⟨rfl, HBW.out⟩
  · have j12 : (len : Int) > 12 := by omega
    have d12 : decide ((len : Int) > 12) = true := decide_eq_true j12
    have HB0 := Lib.hid (fun (w1 u : World) gd (h1 : Below w.heap.size w w1) (h2 : HeldD w1 u gd (DS.new 200) (fun _ => False)) => bbt h1 h2.bel)
    clear h12
    go_enter Try.func3, Try.ntmps3
    go_wp2_with (first
      | (go_at_call 7; refine HAW.out.mono ?_; rintro e w1 ⟨rfl, hb1⟩; have HB1 := Lib.hid hb1; clear hb1)
      | (go_at_call 8; refine (HNEW.out _ HB1.out).mono ?_; rintro e w2 ⟨gd, rfl, h2⟩; have H2 := Lib.hid h2; clear h2))
    go_ret
    exact ⟨rfl, HB0.out _ _ _ HB1.out H2.out⟩
end Go.Proofs.Ytmcbmbcfgefocaa
