/- The walk of SegKeeps. -/
import Derived.Test.YteeomidlnijfbaaPQg
import Derived.Deep.DeepCutAuto
import Derived.Deep.CutBlock
import Derived.Deep.RegionLaw
namespace Go.Proofs.Yteeomidlnijfbaa
open Go.RowKit Go.Shelf
set_option linter.unusedSimpArgs false
set_option linter.unusedVariables false

abbrev lay7 (u : World) (K : Int) (A : Option Addr) (m c g : Nat) (I : Int) (C : Option Addr) (q qc : Nat) : World := u.alloc (.cells #[.int .i64 K, .slice A m c, .int .u32 (g : Nat), .int .i64 I, .slice C q qc] 37)
section
variable {w u u' : World} {gd gq i : Nat} {v7 : Value} {S : DS} {Q : QS} {G : Nat → Prop} {rs : List Rec} {A : Option Addr} {m c : Nat} {R : Nat → RowD} {n : Nat} {v12 : Value} {rs2 : List Rec}
theorem InvK.box (h : InvK w u gd gq i v7 S Q G rs A m c R) (K : Int) (A2 : Option Addr) (m2 c2 g : Nat) (I : Int) (C : Option Addr) (q qc : Nat) :
    ∃ G1 : Nat → Prop, G1 u.heap.size ∧ InvK w (lay7 u K A2 m2 c2 g I C q qc) gd gq i v7 S Q G1 rs A m c R ∧ Box7 (lay7 u K A2 m2 c2 g I C q qc) u.heap.size K A2 m2 c2 g I C q qc :=
  ⟨fun k => G k ∨ (u.heap.size ≤ k ∧ k < (lay7 u K A2 m2 c2 g I C q qc).heap.size), .inr ⟨Nat.le_refl _, by simp⟩, h.more (below_new _ _) fun k => Iff.rfl, heap_alloc_new _ _⟩
theorem Box7.kept {b : Nat} {K : Int} {A2 : Option Addr} {m2 c2 g : Nat} {I : Int} {C : Option Addr} {q qc : Nat} (h : Box7 u b K A2 m2 c2 g I C q qc) (hk : Kept G u u') (hg : G b) : Box7 u' b K A2 m2 c2 g I C q qc := (hk.1 b hg).trans h
theorem Box7.below {b : Nat} {K : Int} {A2 : Option Addr} {m2 c2 g : Nat} {I : Int} {C : Option Addr} {q qc : Nat} (h : Box7 u b K A2 m2 c2 g I C q qc) (hb : Below u.heap.size u u') : Box7 u' b K A2 m2 c2 g I C q qc := (hb.block b (Array.getElem?_eq_some_iff.1 h).1).trans h
theorem ScK.form (h : ScK w u gd gq i v7 S Q G rs A m c R n v12 rs2) : ∃ A12 c12, v12 = .slice A12 (rs.length + n) c12 := by
  obtain ⟨A12, c12, e, _⟩ := h.list
  refine ⟨A12, c12, ?_⟩
  have := h.same.len
  rw [List.length_append, show (recsOf R n).length = n from by simp [recsOf]] at this
  rw [e, this]
theorem AllG.first1 {w0 w : World} {G : Nat → Prop} {A7 : Option Addr} {K c7 : Nat} {rs : List Rec} (h : AllG w0 G w (.slice A7 K c7) rs) (hk : 0 < K) : ∃ g B n d, A7 = some ⟨g, 0, none⟩ ∧ w.cell? ⟨g, 0, none⟩ = some (.slice B n d) ∧ ∃ r ∈ rs, r.1 = n := by
  obtain ⟨A', c', e, ha⟩ := h.form
  cases e
  obtain ⟨_, _, vs, h2, h3, _, h5, _⟩ := h.vals2
  obtain ⟨r, hr⟩ : ∃ r, rs[0]? = some r := ⟨rs[0], List.getElem?_eq_getElem hk⟩
  obtain ⟨x, e1, ⟨B, d, e2, _⟩⟩ := h5 0 r hr
  obtain ⟨ad, e3, hc⟩ := h3 0 x e1
  rcases ha with ⟨e4, _⟩ | ⟨g, e4⟩
  · rw [e4] at e3; cases e3
  · rw [e4] at e3
    cases e3
    exact ⟨g, B, r.1, d, e4, by rw [e2] at hc; exact hc, r, List.mem_of_getElem? hr, rfl⟩
end
set_option maxRecDepth 100000 in
set_option maxHeartbeats 8000000 in
theorem seg_keeps (w : World) (A0 : Option Addr) (n0 cp : Nat) (X : Nat → Act7) (hX : Acts7 w A0 n0 X) (hn0 : n0 ≤ 9223372036854775807) :
    Calls Try.prog 3 #[.slice A0 n0 cp] w fun e w' => e = .returned (.bool true) ∧ Below w.heap.size w w' := by
  have HX : Hid (∀ u i, Below w.heap.size w u → i < n0 → ∃ ad, A0 = some ad ∧ Act7At u (ad.add (i * 5)) (X i) ∧ (X i).r.good w ∧ RowsIn w (X i).RA (X i).Rn (X i).X) := fun u i hu hi => by
    obtain ⟨ad, e, h⟩ := hX i hi
    exact ⟨ad, e, h.below hu, h.2.2.2.2.2.1, h.2.2.2.2.2.2.1⟩
  have HNEW : Hid (∀ u, Below w.heap.size w u → Calls Try.prog 12 #[.int .i64 42] u fun e w' => ∃ gd, e = .returned (.tuple #[.pointer (some ⟨gd, 0, none⟩), .int .i64 0]) ∧ Held w w' gd (DS.new 42) fun _ => True) := fun u hu => held_new (w0 := w) (w := u) 42 (by omega) (by omega) hu
  have HMK : Hid (∀ u gd, Held w u gd (DS.new 42) (fun _ => True) → Calls Try.prog 13 #[.pointer (some ⟨gd, 0, none⟩), .int .i64 1, .int .i64 40, .int .u32 1] u fun e w' => ∃ gq, e = .returned (.tuple #[.pointer (some ⟨gq, 0, none⟩), .int .i64 0]) ∧ HeldG w w' gd gq (DS.new 42) ⟨1, 41, 1, 1, 4294967295⟩ fun _ => False) := fun u gd h => by
    have hh := h
    obtain ⟨F, Z, hF, _⟩ := hh
    refine (snew_ok hF 1 40 1 (by decide) (by decide) (by decide) (by decide)).mono ?_
    rintro e w' ⟨⟨gq, rfl, hg, hq⟩, hb⟩
    exact ⟨gq, rfl, HeldG.of (HeldS.of h hb hg hq)⟩
  have HND : Hid (∀ (n : Nat) (u : World), n ≤ 1000 → Calls Try.prog 20 #[.int .i64 (n : Nat)] u fun e w' => e = .returned (.int .i64 (needF n : Nat)) ∧ u = w') := fun n u hn => (rneed_any n u (by omega)).mono fun e w' h => ⟨h.1, h.2.symm⟩
  clear hX
  go_enter Try.func3, Try.ntmps3
  go_wp2_with (first
    | (go_at_call 11; refine (awake7 _).mono ?_; rintro e w1 ⟨rfl, hb1⟩; have HB1 := Lib.hid hb1; clear hb1)
    | (go_at_call 12; refine (HNEW.out _ HB1.out).mono ?_; rintro e w2 ⟨gd, rfl, h2⟩; have H2 := Lib.hid h2; clear h2)
    | (go_at_call 13; refine (HMK.out _ _ H2.out).mono ?_; rintro e w3 ⟨gq, rfl, h3⟩; have H3 := Lib.hid h3; clear h3)
    | (go_at_call 14; refine (start_k H3.out).mono ?_; rintro e w4 ⟨v4, Q4, rfl, h4⟩; have H4 := Lib.hid h4; clear h4))
  go_loopw [7, 8, 9] (fun v7 v8 v9 wr => ∃ (i : Nat) (S : DS) (Q : QS) (G : Nat → Prop) (rs : List Rec) (A : Option Addr) (m c : Nat) (R : Nat → RowD), i ≤ 40 ∧ v9 = .int .i64 (i : Nat) ∧ v8 = .slice A m c ∧ InvK w wr gd gq i v7 S Q G rs A m c R) (fun _ _ v9 _ => 40 - (intOf v9).toNat)
  case atStart => exact ⟨0, _, _, _, _, none, 0, 0, _, by omega, rfl, rfl, H4.out⟩
  case round =>
    obtain ⟨i, S, Q, G, rs, A, m, c, R, hi, rfl, rfl, h0⟩ := hrel
    obtain ⟨A7, c7, e7, _⟩ := h0.all.form
    obtain ⟨K, hK⟩ : ∃ K, rs.length = K := ⟨_, rfl⟩
    rw [hK] at e7
    subst e7
    have HK := Lib.hid hK
    have hK40 : (K : Int) ≤ 1600 := by have := h0.len; omega
    have hm40 : (m : Int) < 40 := by have := h0.m40; omega
    have HI := Lib.hid hi
    have H0 := Lib.hid h0
    clear hK hi h0
    by_cases hl1 : i < n0
    · by_cases hl2 : i < 40
      · obtain ⟨ad, rfl, hact, hgood, hrows⟩ := HX.out wr i H0.out.held.bel hl1
        obtain ⟨⟨xK, RA, Rn, Rc, RX, xG, xI, C, q, qc, cf⟩, hA⟩ : ∃ a, X i = a := ⟨_, rfl⟩
        rw [hA] at hact hgood hrows
        clear hA
        obtain ⟨x0, x1, x2, x3, x4, _, _, ⟨xr1, xr2⟩, xg, xi0, xi1⟩ := hact
        have x0 : wr.cell? (ad.add (i * 5)) = some (.int .i64 xK) := x0
        have x1 : wr.cell? ⟨(ad.add (i * 5)).block, (ad.add (i * 5)).off + 1, none⟩ = some (.slice RA Rn Rc) := x1
        have x2 : wr.cell? ⟨(ad.add (i * 5)).block, (ad.add (i * 5)).off + 2, none⟩ = some (.int .u32 (xG : Nat)) := x2
        have x3 : wr.cell? ⟨(ad.add (i * 5)).block, (ad.add (i * 5)).off + 3, none⟩ = some (.int .i64 xI) := x3
        have x4 : wr.cell? ⟨(ad.add (i * 5)).block, (ad.add (i * 5)).off + 4, none⟩ = some (.slice C q qc) := x4
        have HR : Hid (RowsIn w RA Rn RX) := hrows
        have HRC : Hid (Rn ≤ Rc) := xr1
        have HRN : Hid (RA = none → Rn = 0 ∧ Rc = 0) := xr2
        have HXI : Hid (xI ≤ 9223372036854775807) := xi1
        have HGD : Hid (Byt w (.slice C q qc) q cf) := hgood.1
        have HUC : Hid (∀ u, Below w.heap.size w u → Rd .u8 u C q cf ∧ (∀ j, j < q → cf j < 256) ∧ q ≤ qc) := fun u h => by
          obtain ⟨C', qc', e, e1, e2, e3⟩ := HGD.out
          cases e
          exact ⟨e2.below h, e3, e1⟩
        have j1 : (i : Int) < (n0 : Int) := by omega
        have j2 : (i : Int) < 40 := by omega
        have HL2 : Hid (i < 40) := hl2
        obtain ⟨bF, hbF⟩ : ∃ bF, fewB RX Rn = bF := ⟨_, rfl⟩
        have HFEW : Hid (∀ u, Below w.heap.size w u → Calls Try.prog 15 #[.slice RA Rn Rc] u fun e w' => e = .returned (.bool bF) ∧ Below u.heap.size u w') := fun u h => by rw [← hbF]; exact few7 (HR.out.below h)
        have HF40 : Hid (bF = true → Rn < 40) := fun e => few_lt (hbF.trans e)
        obtain ⟨G1, hG1, h5, hbx⟩ := H0.out.box xK RA Rn Rc xG xI C q qc
        have HG1 := Lib.hid hG1
        have H5 := Lib.hid h5
        have HBX := Lib.hid hbx
        obtain ⟨b0, b1, b2, b3, b4⟩ := hbx.cells
        have hlt := block_lt_of_cell b0
        clear hgood hrows xr1 xr2 xg xi0 xi1 hbF hG1 h5 hbx hl1 hl2
        cases bF with
        | false =>
          go_wp2_with (go_at_call 15; refine (HFEW.out _ H5.out.held.bel).mono ?_; rintro e w5 ⟨rfl, hb5⟩; have H6 := Lib.hid (H5.out.below hb5); clear hb5)
          go_ret
          exact ⟨rfl, H6.out.held.bel⟩
        | true =>
          have hRn40 : (Rn : Int) < 40 := by have := HF40.out rfl; omega
          by_cases hq : 300 < q
          · have hqI : (300 : Int) < (q : Int) := by omega
            clear hq
            go_wp2_with (go_at_call 15; refine (HFEW.out _ H5.out.held.bel).mono ?_; rintro e w5 ⟨rfl, hb5⟩; have H6 := Lib.hid (H5.out.below hb5); have HBX6 := Lib.hid (HBX.out.below hb5); clear b0 b1 b2 b3 b4 hlt; obtain ⟨b0, b1, b2, b3, b4⟩ := HBX6.out.cells; have hlt := block_lt_of_cell b0; clear hb5)
            go_ret
            exact ⟨rfl, H6.out.held.bel⟩
          · have hqI : ¬ (300 : Int) < (q : Int) := by omega
            have HQ := Lib.hid hq
            clear hq
            by_cases hk0 : xK = 0
            · subst hk0
              go_upto_region 21 with (first
                | (go_at_call 15; refine (HFEW.out _ H5.out.held.bel).mono ?_; rintro e w5 ⟨rfl, hb5⟩; have H6 := Lib.hid (H5.out.below hb5); have HBX6 := Lib.hid (HBX.out.below hb5); clear b0 b1 b2 b3 b4 hlt; obtain ⟨b0, b1, b2, b3, b4⟩ := HBX6.out.cells; have hlt := block_lt_of_cell b0; clear hb5)
                | (go_at_call 16;  refine (H6.out.add (A2 := RA) (m2 := Rn) (c2 := Rc) HR.out (by omega) HRC.out HRN.out).mono ?_; rintro e w6 ⟨k, S', Q', rfl, hk6, hc⟩; have HC0 := Lib.hid hc; have HBX7 := Lib.hid (HBX6.out.kept hk6 HG1.out); clear b0 b1 b2 b3 b4 hlt; obtain ⟨b0, b1, b2, b3, b4⟩ := HBX7.out.cells; have hlt := block_lt_of_cell b0; clear hk6 hc))
              rcases HC0.out with ⟨k0, k4, hc⟩ | ⟨rfl, k4, hc⟩ | ⟨rfl, hm, hc⟩ | ⟨rfl, hm, hc⟩
              · clear HC0
                have HC := Lib.hid hc
                have e0 : (k == 0) = false := by rw [beq_eq_false_iff_ne]; exact k0
                have e4 : (k == 4) = false := by rw [beq_eq_false_iff_ne]; exact k4
                clear hc
                go_wp2
                exact ⟨⟨i + 1, S', Q', G1, rs, A, m, c, R, by have := HL2.out; omega, by rw [Int.natCast_add]; rfl, rfl, HC.out.next⟩, by simp [intOf]; have := HL2.out; omega⟩
              · clear HC0
                have HC := Lib.hid hc
                have em : ((m : Int) == 0) = false := by rw [beq_eq_false_iff_ne]; omega
                have em2 : ¬ (m : Int) = 0 := by omega
                clear hc k4
                go_wp2
                exact ⟨⟨i + 1, S', Q', G1, rs, A, m, c, R, by have := HL2.out; omega, by rw [Int.natCast_add]; rfl, rfl, HC.out.next⟩, by simp [intOf]; have := HL2.out; omega⟩
              · clear HC0
                have HM := Lib.hid hm
                have HFIT := Lib.hid (hc.app HR.out hm H0.out.rows H0.out.mc H0.out.m40 H0.out.nil)
                clear hc hm
                go_wp2_with (at_builtin; obtain ⟨vs, news, f1, f2, f3, f4, f5, f6⟩ := HFIT.out; refine wpList_append_any rfl _ _ 32 rfl w.heap.size 35 (.slice none 0 0) 1 24 Try.underlying32 rows_info rfl (by omega) _ K vs rfl f1 RA Rn Rc news rfl HRN.out f2 f3 f4 (by simp only [maxLen]; omega) (by omega) f5 ?_; intro v8 w8 p1 p2 p3; have HIV := Lib.hid (f6 v8 w8 p1 p2 p3); clear p1 p2 p3 f1 f2 f3 f4 f5 f6)
                obtain ⟨G', hiv⟩ := HIV.out
                exact ⟨⟨i + 1, S', Q', G', _, A, m, c, R, by have := HL2.out; omega, by rw [Int.natCast_add]; rfl, rfl, hiv⟩, by simp [intOf]; have := HL2.out; omega⟩
              · clear HC0
                have HC := Lib.hid hc
                subst hm
                clear hc
                go_wp2
                exact ⟨⟨i + 1, S', Q', G1, rs, RA, Rn, Rc, RX, by have := HL2.out; omega, by rw [Int.natCast_add]; rfl, rfl, HC.out.next⟩, by simp [intOf]; have := HL2.out; omega⟩
            · have e0 : (xK == 0) = false := by rw [beq_eq_false_iff_ne]; exact hk0
              by_cases hk3 : xK = 3
              · subst hk3
                clear e0 hk0
                go_wp2_with (first
                  | (go_at_call 15; refine (HFEW.out _ H5.out.held.bel).mono ?_; rintro e w5 ⟨rfl, hb5⟩; have H6 := Lib.hid (H5.out.below hb5); have HBX6 := Lib.hid (HBX.out.below hb5); clear b0 b1 b2 b3 b4 hlt; obtain ⟨b0, b1, b2, b3, b4⟩ := HBX6.out.cells; have hlt := block_lt_of_cell b0; clear hb5)
                  | (go_at_call 17; refine (H6.out.plan xI HXI.out).mono ?_; rintro e w6 ⟨rfl, hk6, hc⟩; have HC := Lib.hid hc; clear hk6 hc))
                exact ⟨⟨i + 1, _, Q, G1, rs, A, m, c, R, by have := HL2.out; omega, by rw [Int.natCast_add]; rfl, rfl, HC.out.next⟩, by simp [intOf]; have := HL2.out; omega⟩
              · have e3 : (xK == 3) = false := by rw [beq_eq_false_iff_ne]; exact hk3
                by_cases hk4 : xK = 4
                · subst hk4
                  clear e0 e3 hk0 hk3
                  go_upto_region 30 with (first
                    | (go_at_call 15; refine (HFEW.out _ H5.out.held.bel).mono ?_; rintro e w5 ⟨rfl, hb5⟩; have H6 := Lib.hid (H5.out.below hb5); have HBX6 := Lib.hid (HBX.out.below hb5); clear b0 b1 b2 b3 b4 hlt; obtain ⟨b0, b1, b2, b3, b4⟩ := HBX6.out.cells; have hlt := block_lt_of_cell b0; clear hb5)
                    | (go_at_call 18; obtain ⟨r1, r2, r3⟩ := HUC.out _ H6.out.held.bel; refine (H6.out.up C q qc cf r1 r2 r3 (by have := HQ.out; omega)).mono ?_; rintro e w6 ⟨rfl, hk6, S', n, hnm, hc⟩; have HNM := Lib.hid hnm; have HC := Lib.hid hc; clear hk6 hc hnm r1 r2 r3 b0 b1 b2 b3 b4 hlt)
                    | (go_at_call 14; refine HC.out.scan.mono ?_; rintro e w7 ⟨v12, rs2, Q', rfl, hk7, hs⟩; obtain ⟨A12, c12, e12⟩ := hs.form; rw [HK.out] at e12; subst e12; have HS := Lib.hid hs; clear hk7 hs))
                  obtain ⟨L, hL⟩ : ∃ L, K + n = L := ⟨_, rfl⟩
                  have HLL := Lib.hid hL
                  rw [hL] at HS ⊢
                  have l1 : ¬ (L : Int) < (K : Int) := by omega
                  have l2 : ¬ ((K : Int) + (m : Int) < (L : Int)) := by have := HNM.out; omega
                  have l3 : (L : Int) ≤ 1700 := by have := HNM.out; omega
                  clear hL
                  go_upto_region 32 with fail
                  have s1 := fun wq => front35 A m c n H0.out.mc HNM.out wq ((L : Int) - (K : Int)) (by have := HLL.out; omega)
                  have hwr : IntKind.i64.wrap ((L : Int) - (K : Int)) = (L : Int) - (K : Int) := IntWalk.i64_in _ (by omega)
                  obtain ⟨e0, vs, news, g1, g2, g3, g4, g5, g6, g7⟩ := HS.out.want (ux := w7.drew) (Below.refl _ _).drew rfl HNM.out H0.out.m40
                  have HW := Lib.hid g7
                  have HE0 := Lib.hid e0
                  have HG1' := Lib.hid g1
                  have HG2 := Lib.hid g2
                  have HG3 := Lib.hid g3
                  have HG4 := Lib.hid g4
                  have HG5 := Lib.hid g5
                  have HG6 := Lib.hid g6
                  clear e0 g1 g2 g3 g4 g5 g6 g7 l1 l2
                  go_region_law (first
                    | (
                      refine step_append_any rfl (.tmp 115) (.tmp 116) 32 rfl w7.heap.size 35 (.slice none 0 0) 1 24 Try.underlying32 rows_info rfl (by omega) (.slice (some ⟨w7.heap.size, 0, none⟩) 0 0) 0 [] (by simp [Act.eval]) (own_new (w := w7.drew) (Nat.le_refl _)) A7 K c7 vs (by simp [Act.eval]) HE0.out HG1'.out HG2.out HG3.out (by simp only [maxLen]; omega) (by omega) (by simp) ?_
                      intro v13 w13 o13 p13 t13
                      have HO13 := Lib.hid o13
                      have HP13 := Lib.hid p13
                      clear o13 p13 t13)
                    | (
                      have _t := HO13
                      clear _t
                      refine step_append_any rfl (.tmp 117) (.tmp 124) 32 rfl w7.heap.size 35 (.slice none 0 0) 1 24 Try.underlying32 rows_info rfl (by omega) v13 (0 + K) ([] ++ vs) (by simp [Act.eval]) HO13.out A n c news (by simp [Act.eval]) (fun e => ⟨by have := H0.out.nil e; have := HNM.out; omega, (H0.out.nil e).2⟩) HG4.out (HG5.out _ HP13.out) HG6.out (by simp only [maxLen]; have := HNM.out; omega) (by have := HNM.out; omega) (by have := HP13.out.size; simp at this; omega) ?_
                      intro v14 w14 o14 p14 t14
                      have HWW := Lib.hid (HW.out v13 w13 v14 w14 HO13.out HP13.out o14 p14)
                      clear o14 p14 t14))
                  (try simp only [Act.put, List.setIfInBounds_toArray, List.set_cons_zero, List.set_cons_succ, List.getElem_toArray, List.getElem_cons_succ, List.getElem_cons_zero])
                  obtain ⟨G', A8, c8, e14, hb14, hr14, hv14⟩ := HWW.out
                  have HAL : Hid (Calls Try.prog 19 #[.slice A12 L c12, v14] w14 fun e w' => e = .returned (.bool true) ∧ Below w14.heap.size w14 w') := Lib.hid (alikeL_yes (HS.out.list.below hb14) hr14 HS.out.same.symm (by
                    have h1 := HS.out.same.len
                    have h2 : (recsOf R n).length = n := by simp [recsOf]
                    rw [List.length_append, h2, HK.out] at h1
                    have := HNM.out
                    omega))
                  have HV14 := Lib.hid hv14
                  clear hb14 hr14 hv14 s1 hwr e14 HWW HW HE0 HG1' HG2 HG3 HG4 HG5 HG6
                  go_wp2_with (go_at_call 19; refine HAL.out.mono ?_; rintro e w15 ⟨rfl, hb15⟩; have HV15 := Lib.hid (HV14.out.below hb15); clear hb15)
                  exact ⟨⟨i + 1, S', Q', G', _, none, 0, 0, R, by have := HL2.out; omega, by rw [Int.natCast_add]; rfl, rfl, HV15.out⟩, by simp [intOf]; have := HL2.out; omega⟩
                · have e4 : (xK == 4) = false := by rw [beq_eq_false_iff_ne]; exact hk4
                  clear hk0 hk3 hk4
                  go_wp2_with (go_at_call 15; refine (HFEW.out _ H5.out.held.bel).mono ?_; rintro e w5 ⟨rfl, hb5⟩; have H6 := Lib.hid (H5.out.below hb5); have HBX6 := Lib.hid (HBX.out.below hb5); clear b0 b1 b2 b3 b4 hlt; obtain ⟨b0, b1, b2, b3, b4⟩ := HBX6.out.cells; have hlt := block_lt_of_cell b0; clear hb5)
                  exact ⟨⟨i + 1, S, Q, G1, rs, A, m, c, R, by have := HL2.out; omega, by rw [Int.natCast_add]; rfl, rfl, H6.out.next⟩, by simp [intOf]; have := HL2.out; omega⟩
      · have j1 : (i : Int) < (n0 : Int) := by omega
        have j2 : ¬ (i : Int) < 40 := by omega
        clear hl1 hl2
        by_cases hk0 : K = 0
        · subst hk0
          go_wp2
          go_ret
          exact ⟨rfl, H0.out.held.bel⟩
        · obtain ⟨g, B, n, d, rfl, hc, r, hr, hrn⟩ := H0.out.all.first1 (by omega)
          have eK : ((K : Int) == 0) = false := by rw [beq_eq_false_iff_ne]; omega
          have eK2 : ¬ (K : Int) = 0 := by omega
          have eK3 : (0 : Int) < (K : Int) := by omega
          have hnz := H0.out.nz r hr
          rw [hrn] at hnz
          have HN := Lib.hid (need_le hnz)
          have eN : (0 : Int) < (needF n : Nat) := by omega
          have eN2 : (decide (0 < needF n)) = true := decide_eq_true (by omega)
          clear hk0 hnz hr hrn
          go_wp2_with (go_at_call 20; refine (HND.out n _ (by have := HN.out; omega)).mono ?_; rintro e w5 ⟨rfl, rfl⟩)
          go_ret
          exact ⟨rfl, H0.out.held.bel⟩
    · have j1 : ¬ (i : Int) < (n0 : Int) := by omega
      clear hl1
      by_cases hk0 : K = 0
      · subst hk0
        go_wp2
        go_ret
        exact ⟨rfl, H0.out.held.bel⟩
      · obtain ⟨g, B, n, d, rfl, hc, r, hr, hrn⟩ := H0.out.all.first1 (by omega)
        have eK : ((K : Int) == 0) = false := by rw [beq_eq_false_iff_ne]; omega
        have eK2 : ¬ (K : Int) = 0 := by omega
        have eK3 : (0 : Int) < (K : Int) := by omega
        have hnz := H0.out.nz r hr
        rw [hrn] at hnz
        have HN := Lib.hid (need_le hnz)
        have eN : (0 : Int) < (needF n : Nat) := by omega
        have eN2 : (decide (0 < needF n)) = true := decide_eq_true (by omega)
        clear hk0 hnz hr hrn
        go_wp2_with (go_at_call 20; refine (HND.out n _ (by have := HN.out; omega)).mono ?_; rintro e w5 ⟨rfl, rfl⟩)
        go_ret
        exact ⟨rfl, H0.out.held.bel⟩
end Go.Proofs.Yteeomidlnijfbaa
