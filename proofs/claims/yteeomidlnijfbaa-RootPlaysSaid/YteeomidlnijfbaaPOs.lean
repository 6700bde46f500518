/- The walk of RootPlays. -/
import Derived.Test.YteeomidlnijfbaaPOr
import Derived.Deep.DeepCutAuto
import Derived.Deep.CutBlock
namespace Go.Proofs.Yteeomidlnijfbaa
open Go.RowKit
set_option linter.unusedSimpArgs false
set_option linter.unusedVariables false

/-- An act's box. -/
def Box8 (u : World) (b : Nat) (K : Int) (G : Nat) (I : Int) (A : Option Addr) (n c : Nat) : Prop := u.heap[b]? = some (.cells #[.int .i64 K, .int .u32 (G : Nat), .int .i64 I, .slice A n c] 54 (0, 0))
theorem Box8.cells {u : World} {b : Nat} {K : Int} {G : Nat} {I : Int} {A : Option Addr} {n c : Nat} (h : Box8 u b K G I A n c) : u.cell? ⟨b, 0, none⟩ = some (.int .i64 K) ∧ u.cell? ⟨b, 1, none⟩ = some (.int .u32 (G : Nat)) ∧ u.cell? ⟨b, 2, none⟩ = some (.int .i64 I) ∧ u.cell? ⟨b, 3, none⟩ = some (.slice A n c) := by
  rw [cell_of_row _ _ 0 _ _ _ h, cell_of_row _ _ 1 _ _ _ h, cell_of_row _ _ 2 _ _ _ h, cell_of_row _ _ 3 _ _ _ h]
  exact ⟨rfl, rfl, rfl, rfl⟩
theorem box8_two {w0 w : World} {gd g t : Nat} {S R : DS} (h : Two w0 w gd g t S R fun _ => True) (K : Int) (G : Nat) (I : Int) (A : Option Addr) (n c : Nat) : Two w0 (w.alloc (.cells #[.int .i64 K, .int .u32 (G : Nat), .int .i64 I, .slice A n c] 54)) gd g t S R fun u => Box8 u w.heap.size K G I A n c :=
  (h.more (Ψ := fun u => Box8 u w.heap.size K G I A n c) (below_new _ _) fun u hu _ => (hu w.heap.size (Nat.le_refl _) (by simp)).trans (heap_alloc_new _ _)).imp fun _ h => h.2
theorem Two.sec {w0 w w' : World} {gd g t : Nat} {S R : DS} {Φ : World → Prop} (h : Two w0 w gd g t S R Φ) {a : Option Addr} {c : Nat} {f : Nat → Nat} (hv : Byt w' (.slice a 64 c) 64 f) (hn : NewB w (.slice a 64 c)) (hb : Below w.heap.size w w') : Two w0 w' gd g t S R fun u => Φ u ∧ Sec Any u (.slice a 64 c) f :=
  h.more hb fun u hu _ => by
    obtain ⟨⟨gg, o, c', e, h1, h2, h3, h4⟩, hl⟩ := byt_sec hv
    cases e
    exact ⟨gg, o, c, rfl, h1, h2, fun j hj => (World.cell?_of_block (hu gg (hn gg rfl) (hl gg rfl))).trans (h3 j hj), h4⟩
set_option maxRecDepth 100000 in
set_option maxHeartbeats 8000000 in
theorem root_plays (w : World) (n0 : Nat) (hn0 : n0 < 256) (A : Option Addr) (n cp : Nat) (X : Nat → Act8) (hX : Acts8 w A n X) (hn : n ≤ 9223372036854775807) :
    Calls Try.prog 6 #[.int .u8 (n0 : Nat), .slice A n cp] w fun e w' => e = .returned (.bool true) ∧ Below w.heap.size w w' := by
  have HX : Hid (∀ u i, Below w.heap.size w u → i < n → ∃ ad, A = some ad ∧ Act8At u (ad.add (i * 4)) (X i) ∧ (X i).r.good w) := fun u i hu hi => by
    obtain ⟨ad, e, h⟩ := hX i hi
    exact ⟨ad, e, h.below hu, h.2.2.2.2.1⟩
  obtain ⟨N, hN⟩ : ∃ N, n0 % 8 = N := ⟨_, rfl⟩
  have hNI : ((n0 : Nat) : Int) % 8 = (N : Int) := by omega
  have hN8 : N < 8 := by omega
  have HNEW : Hid (∀ u, Calls Try.prog 12 #[.int .i64 (1 + (N : Int))] u fun e w' => NewPost u w' e (1 + N)) := fun u => by
    rw [show (1 : Int) + (N : Int) = ((1 + N : Nat) : Int) from by omega]
    exact new_any (1 + N) u (by omega) (by omega)
  have HMK : Hid (∀ u, Calls Try.prog 24 #[.int .i64 (1 + (N : Int))] u fun e w' => MadePost u w' e (1 + N)) := fun u => by
    rw [show (1 : Int) + (N : Int) = ((1 + N : Nat) : Int) from by omega]
    exact make_any (1 + N) u (by omega) (by omega)
  clear hX hN
  go_enter Try.func6, Try.ntmps6
  go_wp2_with (first
    | (go_at_call 23; refine (awake8 _).mono ?_; rintro e w1 ⟨rfl, hb1⟩; have HB1 := Lib.hid hb1; clear hb1)
    | (go_at_call 12; refine (HNEW.out _).mono ?_; rintro e w2 ⟨gd, F, rfl, hF, hFn, hb2⟩; have HF := Lib.hid hF; have HFN := Lib.hid hFn; have HB2 := Lib.hid hb2; clear hF hFn hb2)
    | (go_at_call 24; refine (HMK.out _).mono ?_; rintro e w4 ⟨g, G, rfl, hG, hGn, hb4⟩; have H0 := Lib.hid (show Two w w4 gd g 0 (DS.new (1 + N)) (DS.new (1 + N)) fun _ => True from two_new HF.out (fun k hk => by have := HFN.out k hk; have := HB1.out.size; omega) (bbt HB1.out HB2.out) hG hGn hb4); clear hG hGn hb4))
  go_loopw [9] (fun v wr => ∃ (i t : Nat) (S : DS), i ≤ 40 ∧ v = .int .i64 (i : Nat) ∧ t ≤ 2 * i ∧ S.P.length ≤ i ∧ Two w wr gd g t S S fun _ => True) (fun v _ => 40 - (intOf v).toNat)
  case atStart => exact ⟨0, 0, DS.new (1 + N), by omega, rfl, Nat.le_refl _, Nat.le_refl _, H0.out⟩
  case round =>
    obtain ⟨i, t, S, hi, rfl, ht, hP, h4⟩ := hrel
    have H4 := Lib.hid h4
    have HT := Lib.hid ht
    have HP := Lib.hid hP
    have HI := Lib.hid hi
    clear h4 ht hP hi
    by_cases hl1 : i < n
    · by_cases hl2 : i < 40
      · obtain ⟨ad, rfl, hact, hgood⟩ := HX.out wr i H4.out.bel hl1
        obtain ⟨⟨xK, xG, xI, C, q, qc, cf⟩, hA⟩ : ∃ a, X i = a := ⟨_, rfl⟩
        rw [hA] at hact hgood
        clear hA
        obtain ⟨x0, x1, x2, x3, _, xg, xi0, xi1⟩ := hact
        have x0 : wr.cell? (ad.add (i * 4)) = some (.int .i64 xK) := x0
        have x1 : wr.cell? ⟨(ad.add (i * 4)).block, (ad.add (i * 4)).off + 1, none⟩ = some (.int .u32 (xG : Nat)) := x1
        have x2 : wr.cell? ⟨(ad.add (i * 4)).block, (ad.add (i * 4)).off + 2, none⟩ = some (.int .i64 xI) := x2
        have x3 : wr.cell? ⟨(ad.add (i * 4)).block, (ad.add (i * 4)).off + 3, none⟩ = some (.slice C q qc) := x3
        have j1 : (i : Int) < (n : Int) := by omega
        have j2 : (i : Int) < 40 := by omega
        have HGD : Hid (Byt w (.slice C q qc) q cf) := hgood.1
        have HXG : Hid (xG < 4294967296) := xg
        have HXI : Hid (-9223372036854775808 ≤ xI ∧ xI ≤ 9223372036854775807) := ⟨xi0, xi1⟩
        have H5 := Lib.hid (box8_two H4.out xK xG xI C q qc)
        obtain ⟨b0, b1, b2, b3⟩ := H5.out.sat.cells
        have hlt := block_lt_of_cell b0
        have HUC : Hid (∀ u, Two w u gd g t S S (fun u => Box8 u wr.heap.size xK xG xI C q qc) → Rd .u8 u C q cf ∧ (∀ j, j < q → cf j < 256) ∧ q ≤ qc ∧ ∀ ad, C = some ad → 0 < q → ad.block < w.heap.size) := fun u h => by
          obtain ⟨C', qc', e, e1, e2, e3⟩ := HGD.out
          cases e
          exact ⟨e2.below h.bel, e3, e1, fun ad e hq => by
            subst e
            have := block_lt_of_cell (e2.at_ (j := 0) hq)
            exact this⟩
        clear hgood xg xi0 xi1
        by_cases hq : 300 < q
        · have hqI : (300 : Int) < (q : Int) := by omega
          clear hq
          go_wp2
          go_ret
          exact ⟨rfl, H5.out.bel⟩
        · have hqI : ¬ (300 : Int) < (q : Int) := by omega
          have HQ := Lib.hid hq
          clear hq
          go_upto_block 2 with fail
          go_cut [11] (fun b wx => b = .bool true ∧ ∃ (T6 : Nat) (S6 : DS), T6 ≤ t + 2 ∧ S6.P.length ≤ S.P.length + 1 ∧ Two w wx gd g T6 S6 S6 fun _ => True)
          case first =>
            by_cases hk0 : xK = 0
            · subst hk0
              obtain ⟨S6, k6, hs6⟩ : ∃ S6 k6, S.save xG = (S6, k6) := ⟨_, _, rfl⟩
              have HP6L : Hid (S6.P.length ≤ S.P.length + 1) := Lib.hid (by have := save_len S xG; rw [hs6] at this; exact this)
              have HS2 : Hid (∀ u, Two w u gd g t S6 S (fun u => Box8 u wr.heap.size 0 xG xI C q qc) → Calls Try.prog 26 #[.pointer (some ⟨g, 0, none⟩), .int .u32 (xG : Nat)] u fun e w' => e = .returned (.int .i64 k6) ∧ Two w w' gd g (t + 2) S6 S6 (fun u => Box8 u wr.heap.size 0 xG xI C q qc)) := fun u h => by
                have := h.save2 (by have := HT.out; have := HI.out; omega) (by have := HP.out; have := HI.out; omega) xG HXG.out
                rw [hs6] at this
                exact this
              have HS1 : Hid (∀ u, Two w u gd g t S S (fun u => Box8 u wr.heap.size 0 xG xI C q qc) → Calls Try.prog 25 #[.pointer (some ⟨gd, 0, none⟩), .int .u32 (xG : Nat)] u fun e w' => e = .returned (.int .i64 k6) ∧ Two w w' gd g t S6 S (fun u => Box8 u wr.heap.size 0 xG xI C q qc)) := fun u h => by
                have := h.save1 (by have := HP.out; have := HI.out; omega) xG HXG.out
                rw [hs6] at this
                exact this
              clear hs6
              go_wp2
              go_region_with (first
                | (go_at_call 25; refine (HS1.out _ (by first | exact H5.out | exact H5.out.drew)).mono ?_; rintro e w5 ⟨rfl, h5⟩; have H55 := Lib.hid h5; obtain ⟨y0, y1, y2, y3⟩ := h5.sat.cells; have hlt5 := block_lt_of_cell y0; clear h5)
                | (go_at_call 26; refine (HS2.out _ H55.out).mono ?_; rintro e w6 ⟨rfl, h6⟩; have H6 := Lib.hid h6; clear h6))
              all_goals
                (try simp only [Act.put, List.setIfInBounds_toArray, List.set_cons_zero, List.set_cons_succ, List.getElem_toArray, List.getElem_cons_succ, List.getElem_cons_zero])
                go_wp2
                go_meet
                exact ⟨rfl, t + 2, S6, Nat.le_refl _, HP6L.out, H6.out.imp fun _ _ => trivial⟩
            · have e0 : (xK == 0) = false := by rw [beq_eq_false_iff_ne]; exact hk0
              by_cases hk1 : xK = 1
              · subst hk1
                obtain ⟨S6, k6, hs6⟩ : ∃ S6 k6, S.write xI (rootF xG) = (S6, k6) := ⟨_, _, rfl⟩
                have HP6L : Hid (S6.P.length ≤ S.P.length + 1) := Lib.hid (by have := write_len S xI (rootF xG); rw [hs6] at this; exact this)
                have HSE : Hid (∀ u, Two w u gd g t S S (fun u => Box8 u wr.heap.size 1 xG xI C q qc) → Calls Try.prog 27 #[.int .u32 (xG : Nat)] u fun e w' => ∃ a c, e = .returned (.slice a 64 c) ∧ Two w w' gd g t S S (fun u => Box8 u wr.heap.size 1 xG xI C q qc ∧ Sec Any u (.slice a 64 c) (rootF xG))) := fun u h => by
                  refine (rsector u (g := (xG : Nat)) (by have := HXG.out; unfold u32I; omega)).mono ?_
                  rintro e w' ⟨⟨v, rfl, hv, hnb⟩, hb⟩
                  obtain ⟨a, c, rfl, _⟩ := id hv
                  exact ⟨a, c, rfl, h.sec hv hnb hb⟩
                have HS1 : Hid (∀ u a c, Two w u gd g t S S (fun u => Box8 u wr.heap.size 1 xG xI C q qc ∧ Sec Any u (.slice a 64 c) (rootF xG)) → Calls Try.prog 22 #[.pointer (some ⟨gd, 0, none⟩), .int .i64 xI, .slice a 64 c] u fun e w' => e = .returned (.int .i64 k6) ∧ Two w w' gd g t S6 S (fun u => Box8 u wr.heap.size 1 xG xI C q qc ∧ Sec Any u (.slice a 64 c) (rootF xG))) := fun u a c h => by
                  have := h.write1 (by have := HP.out; have := HI.out; omega) xI (a := a) (c := c) (f := rootF xG) fun u h => h.2
                  rw [hs6] at this
                  exact this
                have HS2 : Hid (∀ u a c, Two w u gd g t S6 S (fun u => Box8 u wr.heap.size 1 xG xI C q qc ∧ Sec Any u (.slice a 64 c) (rootF xG)) → Calls Try.prog 28 #[.pointer (some ⟨g, 0, none⟩), .int .i64 xI, .slice a 64 c] u fun e w' => e = .returned (.int .i64 k6) ∧ Two w w' gd g (t + 1) S6 S6 (fun u => Box8 u wr.heap.size 1 xG xI C q qc ∧ Sec Any u (.slice a 64 c) (rootF xG))) := fun u a c h => by
                  have := h.write2 (by have := HT.out; have := HI.out; omega) (by have := HP.out; have := HI.out; omega) xI (a := a) (c := c) (f := rootF xG) fun u h => h.2
                  rw [hs6] at this
                  exact this
                clear hs6 e0 hk0
                go_wp2_with (go_at_call 27; refine (HSE.out _ H5.out).mono ?_; rintro e w3 ⟨a3, c3, rfl, h3⟩; have H3 := Lib.hid h3; clear b0 b1 b2 b3 hlt; obtain ⟨b0, b1, b2, b3⟩ := h3.sat.1.cells; have hlt := block_lt_of_cell b0; clear h3)
                go_region_with (first
                  | (go_at_call 22; refine (HS1.out _ _ _ (by first | exact H3.out | exact H3.out.drew)).mono ?_; rintro e w5 ⟨rfl, h5⟩; have H55 := Lib.hid h5; obtain ⟨y0, y1, y2, y3⟩ := h5.sat.1.cells; have hlt5 := block_lt_of_cell y0; clear h5)
                  | (go_at_call 28; refine (HS2.out _ _ _ H55.out).mono ?_; rintro e w6 ⟨rfl, h6⟩; have H6 := Lib.hid h6; clear h6))
                all_goals
                  (try simp only [Act.put, List.setIfInBounds_toArray, List.set_cons_zero, List.set_cons_succ, List.getElem_toArray, List.getElem_cons_succ, List.getElem_cons_zero])
                  go_wp2
                  go_meet
                  exact ⟨rfl, t + 1, S6, by omega, HP6L.out, H6.out.imp fun _ _ => trivial⟩
              · have e1 : (xK == 1) = false := by rw [beq_eq_false_iff_ne]; exact hk1
                by_cases hk2 : xK = 2
                · subst hk2
                  have HP1 : Hid (∀ u, Two w u gd g t S S (fun u => Box8 u wr.heap.size 2 xG xI C q qc) → Calls Try.prog 17 #[.pointer (some ⟨gd, 0, none⟩), .int .i64 xI] u fun e w' => e = .returned (.tuple #[]) ∧ Two w w' gd g t (S.plan xI) S (fun u => Box8 u wr.heap.size 2 xG xI C q qc)) := fun u h => h.plan1 xI HXI.out.2
                  have HP2 : Hid (∀ u, Two w u gd g t (S.plan xI) S (fun u => Box8 u wr.heap.size 2 xG xI C q qc) → Calls Try.prog 29 #[.pointer (some ⟨g, 0, none⟩), .int .i64 xI] u fun e w' => e = .returned (.tuple #[]) ∧ Two w w' gd g t (S.plan xI) (S.plan xI) (fun u => Box8 u wr.heap.size 2 xG xI C q qc)) := fun u h => h.plan2 xI ⟨HXI.out.2, HXI.out.1⟩
                  clear e0 e1 hk0 hk1
                  go_wp2_with (first
                    | (go_at_call 17; refine (HP1.out _ H5.out).mono ?_; rintro e w5 ⟨rfl, h5⟩; have H55 := Lib.hid h5; clear b0 b1 b2 b3 hlt; obtain ⟨b0, b1, b2, b3⟩ := h5.sat.cells; have hlt := block_lt_of_cell b0; clear h5)
                    | (go_at_call 29; refine (HP2.out _ H55.out).mono ?_; rintro e w6 ⟨rfl, h6⟩; have H6 := Lib.hid h6; clear h6))
                  go_meet
                  exact ⟨rfl, t, S.plan xI, by omega, Nat.le_succ _, H6.out.imp fun _ _ => trivial⟩
                · have e2 : (xK == 2) = false := by rw [beq_eq_false_iff_ne]; exact hk2
                  by_cases hk3 : xK = 3
                  · subst hk3
                    obtain ⟨cs, hcs⟩ : ∃ cs, (List.range q).map cf = cs := ⟨_, rfl⟩
                    have HP1 : Hid (∀ u, Two w u gd g t S S (fun u => Box8 u wr.heap.size 3 xG xI C q qc) → Calls Try.prog 18 #[.pointer (some ⟨gd, 0, none⟩), .slice C q qc] u fun e w' => e = .returned (.tuple #[]) ∧ Two w w' gd g t (S.up cs) S (fun u => Box8 u wr.heap.size 3 xG xI C q qc)) := fun u h => by
                      rw [← hcs]
                      obtain ⟨r1, r2, r3, r4⟩ := HUC.out u h
                      exact h.up1 (by have := HP.out; have := HI.out; omega) C q qc cf r1 r2 r3 (by have := HQ.out; omega)
                    have HP2 : Hid (∀ u, Two w u gd g t (S.up cs) S (fun u => Box8 u wr.heap.size 3 xG xI C q qc) → Calls Try.prog 30 #[.pointer (some ⟨g, 0, none⟩), .slice C q qc] u fun e w' => e = .returned (.tuple #[]) ∧ Two w w' gd g t (S.up cs) (S.up cs) (fun u => Box8 u wr.heap.size 3 xG xI C q qc)) := fun u h => by
                      subst hcs
                      obtain ⟨C', qc', e, e1, e2, e3⟩ := HGD.out
                      cases e
                      refine h.up2 (by have := HP.out; have := HI.out; omega) C q qc cf (e2.below h.bel) e3 fun ad e hq => ?_
                      subst e
                      have := block_lt_of_cell (e2.at_ (j := 0) hq)
                      exact this
                    clear e0 e1 e2 hk0 hk1 hk2 hcs
                    go_wp2_with (first
                      | (go_at_call 18; refine (HP1.out _ H5.out).mono ?_; rintro e w5 ⟨rfl, h5⟩; have H55 := Lib.hid h5; clear b0 b1 b2 b3 hlt; obtain ⟨b0, b1, b2, b3⟩ := h5.sat.cells; have hlt := block_lt_of_cell b0; clear h5)
                      | (go_at_call 30; refine (HP2.out _ H55.out).mono ?_; rintro e w6 ⟨rfl, h6⟩; have H6 := Lib.hid h6; clear h6))
                    go_meet
                    exact ⟨rfl, t, S.up cs, by omega, Nat.zero_le _, H6.out.imp fun _ _ => trivial⟩
                  · have e3 : (xK == 3) = false := by rw [beq_eq_false_iff_ne]; exact hk3
                    clear hk0 hk1 hk2 hk3
                    go_wp2
                    go_meet
                    exact ⟨rfl, t, S, by omega, Nat.le_succ _, H5.out.imp fun _ _ => trivial⟩
          case rest =>
            obtain ⟨rfl, T6, S6, ht6, hp6, h6⟩ := hcut
            have H6 := Lib.hid h6
            have HT6 := Lib.hid ht6
            have HP6L := Lib.hid hp6
            have HP6 : Hid (S6.P.length ≤ 900000) := Lib.hid (by have := HP6L.out; have := HP.out; have := HI.out; omega)
            clear h6 ht6 hp6 b0 b1 b2 b3 hlt x0 x1 x2 x3
            go_wp2_with (first
              | (go_at_call 31; refine H6.out.load1.mono ?_; rintro e w7 ⟨rfl, h7⟩; have H7 := Lib.hid h7; clear h7)
              | (go_at_call 32; refine (H7.out.load2 HP6.out).mono ?_; rintro e w8 ⟨rfl, h8⟩; have H8 := Lib.hid h8; clear h8)
              | (go_at_call 33; refine H8.out.image1.mono ?_; rintro e w9 ⟨a9, c9, rfl, h9⟩; have H9 := Lib.hid h9; clear h9)
              | (go_at_call 34; refine H9.out.image2.mono ?_; rintro e w10 ⟨a10, c10, rfl, h10, hi10⟩; have H10 := Lib.hid h10; have HI10 := Lib.hid hi10; clear h10 hi10)
              | (go_at_call 19; refine (H10.out.alikeR H10.out.n2 H10.out.sat.2 HI10.out).mono ?_; rintro e w11 ⟨rfl, h11⟩; have H11 := Lib.hid (h11.imp (Ψ := fun _ => True) fun _ _ => trivial); clear h11))
            exact ⟨⟨i + 1, T6, S6, by omega, by rw [Int.natCast_add]; rfl, by have := HT6.out; have := HT.out; omega, by have := HP6L.out; have := HP.out; omega, H11.out⟩, by simp [intOf]; omega⟩

      · have j1 : (i : Int) < (n : Int) := by omega
        have j2 : ¬ (i : Int) < 40 := by omega
        go_wp2
        go_ret
        exact ⟨rfl, H4.out.bel⟩
    · have j1 : ¬ (i : Int) < (n : Int) := by omega
      go_wp2
      go_ret
      exact ⟨rfl, H4.out.bel⟩
end Go.Proofs.Yteeomidlnijfbaa
