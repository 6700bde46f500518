/- What Compact does: by its parts. -/
import Derived.Test.YtmcbmbcfgefocaaPGq
import Derived.Deep.RegionHeld3
namespace Go.Proofs.Ytmcbmbcfgefocaa
open Go.RowKit Go.Shelf
set_option linter.unusedSimpArgs false
set_option linter.unusedVariables false

section
variable {w0 w w' : World} {gl gd gq gq2 : Nat} {S S' S2 : DS} {Q Q' Q1 : QS} {v : Value} {rs rs2 : List Rec} {G Z Z' : Nat → Prop} {N M n : Nat} {R : Nat → RowD}
/-- Whether a compaction is done. -/
def CompOk (N : Nat) (Q : QS) (n : Nat) (R : Nat → RowD) : Prop := (∀ i, i < n → needF (R i).n ≠ 0) ∧ n ≤ 200 ∧ sumN R n ≤ halfN N ∧ Q.gen + 1 < 4294967296
theorem comp_zero (hN : 18 ≤ N) (hN2 : N ≤ 512) (hM : M ≤ 1000000) (h : LedS N M S Q rs) (hok : CompOk N Q n R) (hf : ∀ i, i < n → ∀ j, j < (R i).n → (R i).f j < 256) : ∀ S' Q' k, AddS S (nextQ N S (Q.gen + 1)) n R S' Q' k → k = 0 := by
  intro S' Q' k ha
  obtain ⟨o1, o2, o3, o4⟩ := hok
  have hc := h.begun hN hN2 hM o4
  have ht := (nextQ_top hN h (Q.gen + 1)).1
  have htk : takesC (nextQ N S (Q.gen + 1)) n R = 0 := by
    unfold takesC
    rw [if_neg (by rintro ⟨i, hi, e⟩; exact o1 i hi e), if_neg]
    have e : (nextQ N S (Q.gen + 1)).behind - (nextQ N S (Q.gen + 1)).ende = halfN N := by
      show 2 + (Q.gen + 1) % 2 * halfN N + halfN N - (2 + (Q.gen + 1) % 2 * halfN N) = _
      omega
    rw [e]
    omega
  rcases hc.add hf ha with ⟨e, h0, _⟩ | ⟨e, _⟩
  · rw [htk] at e
    exact e
  · exact e
/-- Behind the root: the segment and the records are set. -/
theorem comp_fin {w6 w7 : World} {v2 : Value} (hh : HeldG w0 w6 gd gq2 S2 Q1 (GLd gl v Z)) (hr : w6.rowIs gl 56 4 (lv (some ⟨gd, 0, none⟩) (some ⟨gq, 0, none⟩) v false)) (hzg : ¬ Z gl) (hb : Below w6.heap.size w6 w7) (hre : RecsAt w7 w6.heap.size v2 rs2) :
    (w7.cell? ⟨gl, 1, none⟩ = some (.pointer (some ⟨gq, 0, none⟩)) ∧ w7.frozen? ⟨gl, 1, none⟩ = false) ∧ ((w7.setCell ⟨gl, 1, none⟩ (.pointer (some ⟨gq2, 0, none⟩))).cell? ⟨gl, 2, none⟩ = some v ∧ (w7.setCell ⟨gl, 1, none⟩ (.pointer (some ⟨gq2, 0, none⟩))).frozen? ⟨gl, 2, none⟩ = false) ∧
    Led w0 ((w7.setCell ⟨gl, 1, none⟩ (.pointer (some ⟨gq2, 0, none⟩))).setCell ⟨gl, 2, none⟩ v2) gl gd gq2 S2 Q1 v2 rs2 Z ∧ Kept Z w6 ((w7.setCell ⟨gl, 1, none⟩ (.pointer (some ⟨gq2, 0, none⟩))).setCell ⟨gl, 2, none⟩ v2) := by
  have hr7 := hr.of_block (hb.block gl hr.lt)
  have hr8 := hr7.set 1 (.pointer (some ⟨gq2, 0, none⟩))
  have h6 := hb.size
  have hs9 : ((w7.setCell ⟨gl, 1, none⟩ (.pointer (some ⟨gq2, 0, none⟩))).setCell ⟨gl, 2, none⟩ v2).heap.size = w7.heap.size := by simp [World.setCell]
  have h06 := hh.bel.size
  have hzw : ∀ k, Z k → k < w6.heap.size := fun k hk => by
    obtain ⟨F, a1, a2, a3, a4, a5, a6⟩ := hh
    exact (a6 k (.inr (.inr hk))).2
  have ho : Only (GLd gl v Z) w6 ((w7.setCell ⟨gl, 1, none⟩ (.pointer (some ⟨gq2, 0, none⟩))).setCell ⟨gl, 2, none⟩ v2) := ((Only.of_below hb).setCell (a := ⟨gl, 1, none⟩) (.inl (.inl rfl)) _).setCell (a := ⟨gl, 2, none⟩) (.inl (.inl rfl)) _
  have hin : ∀ k, v2.ownBlock = some k → w6.heap.size ≤ k ∧ k < w7.heap.size := fun k e => by
    refine ⟨hre.base k e, ?_⟩
    obtain ⟨vs, a1, _⟩ := hre
    rcases a1.2 with ⟨e1, _⟩ | ⟨g, c, cur, e1, _, hgb, _⟩
    · rw [e1] at e; cases e
    · rw [e1] at e
      have : g = k := by simpa [Value.ownBlock] using e
      subst this
      exact (Array.getElem?_eq_some_iff.1 hgb).1
  have hfr : Fr (fun _ => False) (fun k => k = gl) w7 ((w7.setCell ⟨gl, 1, none⟩ (.pointer (some ⟨gq2, 0, none⟩))).setCell ⟨gl, 2, none⟩ v2) := Fr.set (Fr.set (Ts := fun _ => False) (Bs := fun k => k = gl) (w := w7) Fr.refl (B := gl) (i := 1) rfl (.pointer (some ⟨gq2, 0, none⟩))) (B := gl) (i := 2) rfl v2
  refine ⟨⟨hr7.cell (i := 1) (by omega), hr7.frozen 1⟩, ⟨hr8.cell (i := 2) (by omega), hr8.frozen 2⟩, ⟨hh.ours ho fun k hk => ?_, (hr8.set 2 v2).congr fun i hi => ?_, (hre.fr hfr id id fun g hg c m => ?_).lower h06, hzg, fun k e hz => ?_⟩, fun k hk => ?_, by rw [hs9]; exact h6⟩
  · rcases hk with e | e | e
    · exact .inl (.inl e)
    · have := hin k e
      rw [hs9]
      exact .inr this
    · exact .inl (.inr (.inr e))
  · rcases (by omega : i = 0 ∨ i = 1 ∨ i = 2 ∨ i = 3) with rfl | rfl | rfl | rfl <;> rfl
  · obtain rfl : g = gl := hg
    obtain ⟨cs, hcs, _⟩ := hr7
    rw [hcs]
    exact ⟨fun e => by simp at e, fun e => by simp at e⟩
  · have := hin k e
    have := hzw k hz
    omega
  · have hk6 := hzw k hk
    have hne : k ≠ gl := fun e => hzg (e ▸ hk)
    refine (Below.heap_setCell _ ⟨gl, 2, none⟩ v2 k hne).trans ((Below.heap_setCell w7 ⟨gl, 1, none⟩ _ k hne).trans (hb.block k hk6))
theorem recs_in {w : World} {A : Option Addr} {c : Nat} (h : RowsIn w A n R) : RowsBy w (.slice A n c) (recsOf R n) := by
  have hl : (recsOf R n).length = n := by unfold recsOf; simp
  refine ⟨A, c, by rw [hl], fun i r hi => ?_⟩
  have hin : i < n := by have := (List.getElem?_eq_some_iff.1 hi).1; omega
  obtain ⟨ad, e, h1, h2, h3⟩ := h i hin
  have hr : r = ((R i).n, (R i).f) := by
    unfold recsOf at hi
    simp [hin] at hi
    exact hi.symm
  subst hr
  exact ⟨ad, _, e, h1, h2, h3⟩
theorem recs_few (h : ∀ i, i < n → needF (R i).n ≠ 0) : ∀ r ∈ recsOf R n, r.1 ≤ 392 := by
  intro r hr
  unfold recsOf at hr
  obtain ⟨i, hi, rfl⟩ := List.mem_map.1 hr
  have := h i (List.mem_range.1 hi)
  show (R i).n ≤ 392
  unfold needF at this
  split at this
  · exact absurd rfl this
  · omega
/-- How a compaction ends. -/
def CompPost (w0 u u' : World) (e : Ending) (gl gd gq : Nat) (N M : Nat) (S : DS) (Q : QS) (v : Value) (rs : List Rec) (n : Nat) (R : Nat → RowD) (Z : Nat → Prop) : Prop :=
  ((∃ i, i < n ∧ needF (R i).n = 0) ∧ e = refE 1 ∧ Led w0 u' gl gd gq S Q v rs Z ∧ Kept Z u u') ∨
  ((∀ i, i < n → needF (R i).n ≠ 0) ∧ ¬ CompOk N Q n R ∧ e = refE 3 ∧ Led w0 u' gl gd gq S Q v rs Z ∧ Kept Z u u') ∨
  (CompOk N Q n R ∧ e = .returned (.tuple #[]) ∧ ∃ gq2 S2 Q1 v2, LedS N (M + n) S2 Q1 (recsOf R n) ∧ Q1.gen = Q.gen + 1 ∧ Q1.ende = Q1.first + sumN R n ∧ Led w0 u' gl gd gq2 S2 Q1 v2 (recsOf R n) Z ∧ Kept Z u u')
/-- The other half is filled, and its root saved. -/
def FillSave (w0 u : World) (gd gq2 : Nat) (N M : Nat) (S : DS) (Q : QS) (n : Nat) (R : Nat → RowD) (G : Nat → Prop) (S1 : DS) (Q1 : QS) : Prop :=
  HeldG w0 u gd gq2 S1 Q1 G ∧ S1.P.length ≤ 900000 ∧ (S1.save (Q.gen + 1)).2 = 0 ∧ LedS N (M + n) (S1.save (Q.gen + 1)).1 Q1 (recsOf R n) ∧ Q1.gen = Q.gen + 1 ∧ Q1.ende = Q1.first + sumN R n
theorem comp_fill (hN : 18 ≤ N) (hN2 : N ≤ 512) (hM : M ≤ 1000000) (h : LedS N M S Q rs) (hok : CompOk N Q n R) (hh : HeldG w0 w gd gq2 S (segQ N (Q.gen + 1)) G) {A : Option Addr} {c : Nat} (hR : ∀ u, Kept G w u → Below w0.heap.size w0 u → RowsIn u A n R) :
    Calls Try.prog 29 #[.pointer (some ⟨gq2, 0, none⟩), .slice A n c] w fun e w' => e = .returned (.tuple #[]) ∧ (∃ S1 Q1, FillSave w0 w' gd gq2 N M S Q n R G S1 Q1) ∧ Kept G w w' := by
  have hf : ∀ i, i < n → ∀ j, j < (R i).n → (R i).f j < 256 := fun i hi j hj => by
    obtain ⟨ad, e, h1, h2, h3⟩ := hR w ⟨fun _ _ => rfl, Nat.le_refl _⟩ hh.bel i hi
    exact h2.lt j hj
  by_cases hn0 : n = 0
  · subst hn0
    obtain ⟨a1, a2, a3, ⟨a4, a5⟩, a6, a7⟩ := h.compact0 hN hN2 hM hok.2.2.2 rfl
    refine (fill_none (R := R) h.n hN hN2 hok.2.2.2 hh h.calm.gone (by rw [h.calm.P]; decide) a1 a2 a3 rfl a4 a5).mono ?_
    rintro e w' ⟨rfl, b1, b2⟩
    exact ⟨rfl, ⟨_, _, b1, a5, a7, a6, rfl, rfl⟩, b2⟩
  · refine (fill_some hh h.calm.gone (by rw [h.calm.P]; decide) hR hn0 (by have := hok.2.1; omega) (comp_zero hN hN2 hM h hok hf)).mono ?_
    rintro e w' ⟨rfl, S1, Q1, ha, b1, b2⟩
    obtain ⟨c1, c2, c3, c4⟩ := h.compact hN hN2 hM hok.2.2.2 ha hn0 hok.2.1 hf
    subst c4
    exact ⟨rfl, ⟨_, _, b1, c3, c2, c1, rfl, rfl⟩, b2⟩
end
end Go.Proofs.Ytmcbmbcfgefocaa

/- Contract: what Compact does, the walk. -/
namespace Go.Proofs.Ytmcbmbcfgefocaa
open Go.RowKit Go.Shelf
set_option linter.unusedSimpArgs false
set_option linter.unusedVariables false

section
variable {w0 w w' : World} {gl gd gq gq2 : Nat} {S S' S2 : DS} {Q Q' Q1 : QS} {v : Value} {rs rs2 : List Rec} {G Z Z' : Nat → Prop} {N M n : Nat} {R : Nat → RowD}
set_option maxRecDepth 100000 in
set_option maxHeartbeats 4000000 in
theorem compact_any (hN : 18 ≤ N) (hN2 : N ≤ 512) (hM : M ≤ 1000000) (hS : LedS N M S Q rs) (hL : Led w0 w gl gd gq S Q v rs Z) {br bl : Nat} {A : Option Addr} {c : Nat} (zr : Z br) (zl : Z bl) (hbr : Boxed w br 33 (.slice A n c)) (hbl : Boxed w bl 28 (.pointer (some ⟨gl, 0, none⟩))) (hR : ∀ V, Kept Z w V → Below w0.heap.size w0 V → RowsIn V A n R) (hn : n ≤ 100000) :
    Calls Try.prog 25 #[.pointer (some ⟨br, 0, none⟩), .pointer (some ⟨bl, 0, none⟩)] w fun e w' => CompPost w0 w w' e gl gd gq N M S Q v rs n R Z := by
  have cr := hbr.cell
  have cl := hbl.cell
  obtain ⟨x0, x1, x2, x3⟩ := hL.cells
  have hR0 := hR w ⟨fun _ _ => rfl, Nat.le_refl _⟩ hL.bel
  have hND := lneed_any A n c R hR0 hn
  have HLL := Lib.hid hL
  have HSS := Lib.hid hS
  have HP1 := Lib.hid (fun (h : ∃ i, i < n ∧ needF (R i).n = 0) => (show CompPost w0 w w (refE 1) gl gd gq N M S Q v rs n R Z from .inl ⟨h, rfl, hL, fun _ _ => rfl, Nat.le_refl _⟩))
  have HP3 := Lib.hid (fun (h : ∀ i, i < n → needF (R i).n ≠ 0) (h2 : ¬ CompOk N Q n R) => (show CompPost w0 w w (refE 3) gl gd gq N M S Q v rs n R Z from .inr (.inl ⟨h, h2, rfl, hL, fun _ _ => rfl, Nat.le_refl _⟩)))
  have HHF : Hid (∀ u, Below w.heap.size w u → Calls Try.prog 27 #[.pointer (some ⟨gd, 0, none⟩)] u fun e w' => e = .returned (.int .i64 (halfN N : Nat)) ∧ u = w') := Lib.hid fun u hu => by
    obtain ⟨F, hF⟩ := hL.1.disk.dsk
    have := half_any (hF.keep (fun k hk => hu.block k (hF.lt k hk)) hu.size) (by rw [hS.n]; omega) (by rw [hS.n]; exact hN2)
    rw [hS.n] at this
    exact this
  have HGN : Hid (∀ u, Below w.heap.size w u → Calls Try.prog 13 #[.pointer (some ⟨gl, 0, none⟩)] u fun e w' => e = .returned (.int .u32 (Q.gen : Nat)) ∧ u = w') := Lib.hid fun u hu => (hL.below hu).gen
  have hgq : Q.gen < 4294967296 := hS.calm.ok.2.2.2.1
  obtain ⟨g, hg⟩ : ∃ g, Q.gen = g := ⟨_, rfl⟩
  obtain ⟨sm, hsm⟩ : ∃ sm, sumN R n = sm := ⟨_, rfl⟩
  obtain ⟨hf, hhf⟩ : ∃ hf, halfN N = hf := ⟨_, rfl⟩
  have hhf2 : hf ≤ 255 := by rw [← hhf]; unfold halfN; omega
  have hsm2 : sm ≤ 800000 := by have := sumN_le R n; omega
  have HG := Lib.hid hg
  have HSM := Lib.hid hsm
  have HHN := Lib.hid hhf
  by_cases hz : ∃ i, i < n ∧ needF (R i).n = 0
  · have HF := Lib.hid (HP1.out hz)
    have e1 : needE n R = refE 1 := if_pos hz
    rw [e1] at hND
    have HND := Lib.hid hND
    clear hND e1 hz hL hS hbr hbl hR hR0 HP1 HP3 hsm hg hhf
    go_enter Try.func25, Try.ntmps25
    go_wp2_with (go_at_call 26; refine HND.out.mono ?_; rintro e w2 ⟨rfl, rfl⟩)
    exact ⟨rfl, HF.out⟩
  · have e1 : needE n R = .returned (.int .i64 (sumN R n : Nat)) := if_neg hz
    have hz2 : ∀ i, i < n → needF (R i).n ≠ 0 := fun i hi e => hz ⟨i, hi, e⟩
    rw [e1, hsm] at hND
    have HND := Lib.hid hND
    by_cases hok : CompOk N Q n R
    · have j1 : ¬ ((n : Int) > 200) := by have := hok.2.1; omega
      have d1 : decide ((n : Int) > 200) = false := decide_eq_false j1
      have hsf : sm ≤ hf := by rw [← hsm, ← hhf]; exact hok.2.2.1
      have j2 : ¬ ((sm : Int) > (hf : Int)) := by omega
      have d2 : decide ((sm : Int) > (hf : Int)) = false := decide_eq_false j2
      have d2' : decide (hf < sm) = false := decide_eq_false (by omega)
      have hg1 : g + 1 < 4294967296 := by rw [← hg]; exact hok.2.2.2
      have j3 : ((g : Int) == 4294967295) = false := by rw [beq_eq_false_iff_ne]; omega
      have w1 : IntKind.u32.wrap ((g : Int) + 1) = ((g + 1 : Nat) : Int) := by rw [IntWalk.u32_in _ (by omega)]; omega
      have HSG : Hid (∀ u, Below w.heap.size w u → Calls Try.prog 28 #[.pointer (some ⟨gd, 0, none⟩), .int .u32 ((g + 1 : Nat) : Int)] u fun e w' => SegmPost u w' e gd N (g + 1)) := Lib.hid fun u hu => by
        obtain ⟨F, hF⟩ := hL.1.disk.dsk
        exact segment_any (hF.keep (fun k hk => hu.block k (hF.lt k hk)) hu.size) hS.n hN hN2 (g + 1) hg1
      have h0 := Below.refl w.heap.size w
      have hzw := fun k hk => (hL.z_lt k hk).2
      have hK0 : ∀ u, Below w.heap.size w u → Kept Z w u := fun u hu => Kept.below hzw hu
      have HBX : Hid (∀ u, Kept Z w u → u.cell? ⟨bl, 0, none⟩ = some (.pointer (some ⟨gl, 0, none⟩)) ∧ u.cell? ⟨br, 0, none⟩ = some (.slice A n c)) := Lib.hid fun u hu => ⟨Boxed.cell (show Boxed u bl 28 (.pointer (some ⟨gl, 0, none⟩)) from (hu.1 bl zl).trans hbl), Boxed.cell (show Boxed u br 33 (.slice A n c) from (hu.1 br zr).trans hbr)⟩
      have HK0 := Lib.hid hK0
      have HRR := Lib.hid hR
      have HOK := Lib.hid hok
      have HMU := Lib.hid must0
      rw [hg] at HGN
      rw [hhf] at HHF
      clear hND e1 hz hz2 hok hL hS hbr hbl hR hR0 HP1 HP3 hsm hg hhf hsf hzw hK0
      go_enter Try.func25, Try.ntmps25
      go_upto_region 3 with (first
        | (go_at_call 26; refine HND.out.mono ?_; rintro e w2 ⟨rfl, hw⟩; subst hw)
        | (go_at_call 27; refine (HHF.out _ h0).mono ?_; rintro e w2 ⟨rfl, hw⟩; subst hw)
        | (go_at_call 13; refine (HGN.out _ h0).mono ?_; rintro e w2 ⟨rfl, hw⟩; subst hw))
      have B0 := Lib.hid (show Below w.heap.size w w.drew from Below.drew_ (Below.refl _ _))
      have CC := Lib.hid (fun (u : World) (hu : Below w.heap.size w u) => (show u.cell? ⟨bl, 0, none⟩ = some (.pointer (some ⟨gl, 0, none⟩)) ∧ u.cell? ⟨gl, 0, none⟩ = some (.pointer (some ⟨gd, 0, none⟩)) from ⟨(HBX.out u (HK0.out u hu)).1, (HLL.out.below hu).cells.1⟩))
      have C0 := Lib.hid (CC.out _ B0.out)
      have GN0 := Lib.hid (HGN.out _ B0.out)
      have SG0 := Lib.hid (HSG.out _ B0.out)
      clear cr cl x0 x1 x2 x3 h0 HND HHF HGN HSG
      go_region_held3 (fun w' => w'.cell? ⟨bl, 0, none⟩ = some (.pointer (some ⟨gl, 0, none⟩)) ∧ w'.cell? ⟨gl, 0, none⟩ = some (.pointer (some ⟨gd, 0, none⟩))) (first | exact C0.out | exact C3.out)
        (first
          | (go_at_call 13; refine GN0.out.mono ?_; rintro e w2 ⟨rfl, rfl⟩)
          | (go_at_call 28; refine SG0.out.mono ?_; rintro e w3 ⟨gq2, rfl, s1, s2, s3⟩; have H3 := Lib.hid ((HLL.out.1.disk.below B0.out).seg s3 s1 s2); have B3 := Lib.hid (B0.out.trans (s3.mono B0.out.size)); have C3 := Lib.hid (CC.out _ B3.out); clear s1 s2 s3))
      have HK3 := Lib.hid (HK0.out w3 B3.out)
      have FL := Lib.hid (comp_fill (M := M) (gq2 := gq2) (w := w3) (w0 := w0) (gd := gd) (G := GLd gl v Z) hN hN2 hM HSS.out HOK.out (by rw [HG.out]; exact H3.out) (A := A) (c := c) fun u hu hB => HRR.out u (HK3.out.trans ⟨fun k hk => hu.1 k (.inr (.inr hk)), hu.2⟩) hB)
      have c3 := (HBX.out w3 HK3.out).2
      have HRW3 := Lib.hid (HLL.out.below B3.out).row
      go_upto_region 5 with (go_at_call 29; refine FL.out.mono ?_; rintro e w4 ⟨rfl, ⟨S1, Q1, f1⟩, k4⟩; have F4 := Lib.hid f1; have HK4 := Lib.hid (HK3.out.trans (show Kept Z w3 w4 from ⟨fun k hk => k4.1 k (.inr (.inr hk)), k4.2⟩)); have HRW4 := Lib.hid (HRW3.out.of_block (k4.1 gl (.inl rfl))); clear f1 k4)
      have B4 := Lib.hid (show Below w4.heap.size w4 w4.drew from Below.drew_ (Below.refl _ _))
      have C4 : Hid (w4.drew.cell? ⟨bl, 0, none⟩ = some (.pointer (some ⟨gl, 0, none⟩)) ∧ w4.drew.cell? ⟨gl, 0, none⟩ = some (.pointer (some ⟨gd, 0, none⟩))) := Lib.hid ⟨(HBX.out w4 HK4.out).1, HRW4.out.cell (i := 0) (by omega)⟩
      have H4 := Lib.hid (F4.out.1.below B4.out)
      have GN4 : Hid (Calls Try.prog 32 #[.pointer (some ⟨gq2, 0, none⟩)] w4.drew fun e w' => e = .returned (.int .u32 ((g + 1 : Nat) : Int)) ∧ w4.drew = w') := Lib.hid (by
        have := gen_any H4.out.box
        rw [F4.out.2.2.2.2.1, HG.out] at this
        exact this)
      have SV4 : Hid (Calls Try.prog 31 #[.pointer (some ⟨gd, 0, none⟩), .int .u32 ((g + 1 : Nat) : Int)] w4.drew fun e w' => e = .returned (.int .i64 0) ∧ HeldG w0 w' gd gq2 (S1.save (g + 1)).1 Q1 (GLd gl v Z) ∧ Kept (GLd gl v Z) w4.drew w') := Lib.hid (by
        have := H4.out.save_ F4.out.2.1 (g + 1) hg1
        have e : (S1.save (g + 1)).2 = 0 := by rw [← HG.out]; exact F4.out.2.2.1
        rw [e] at this
        exact this)
      clear c3
      go_region_held3 (fun w' => w'.cell? ⟨bl, 0, none⟩ = some (.pointer (some ⟨gl, 0, none⟩)) ∧ w'.cell? ⟨gl, 0, none⟩ = some (.pointer (some ⟨gd, 0, none⟩))) (first | exact C4.out | exact C5.out)
        (first
          | (go_at_call 32; refine GN4.out.mono ?_; rintro e w2 ⟨rfl, rfl⟩)
          | (go_at_call 31; refine SV4.out.mono ?_; rintro e w5 ⟨rfl, h5, k5⟩; have H5 := Lib.hid h5; have HK5 := Lib.hid (HK4.out.trans (show Kept Z w4 w5 from ⟨fun k hk => k5.1 k (.inr (.inr hk)), k5.2⟩)); have HRW5 := Lib.hid (HRW4.out.of_block (k5.1 gl (.inl rfl))); have C5 : Hid (w5.cell? ⟨bl, 0, none⟩ = some (.pointer (some ⟨gl, 0, none⟩)) ∧ w5.cell? ⟨gl, 0, none⟩ = some (.pointer (some ⟨gd, 0, none⟩))) := Lib.hid ⟨(HBX.out w5 HK5.out).1, HRW5.out.cell (i := 0) (by omega)⟩; clear h5 k5)
          | (go_at_call 30; refine (HMU.out _).mono ?_; rintro e w6 ⟨rfl, rfl⟩))
      go_upto_region 6 with fail
      have B5 := Lib.hid (show Below w5.heap.size w5 w5.drew from Below.drew_ (Below.refl _ _))
      have HNE := Lib.hid (show bl ≠ gl ∧ br ≠ gl from ⟨fun e => HLL.out.2.2.2.1 (e ▸ zl), fun e => HLL.out.2.2.2.1 (e ▸ zr)⟩)
      have D5 : Hid (w5.drew.cell? ⟨bl, 0, none⟩ = some (.pointer (some ⟨gl, 0, none⟩)) ∧ w5.drew.cell? ⟨br, 0, none⟩ = some (.slice A n c)) := Lib.hid (HBX.out w5 HK5.out)
      have hcl := clones_any (recs_in (c := c) (HRR.out w5.drew HK5.out (H5.out.below B5.out).bel)) (fun r hr => Nat.le_trans (recs_few HOK.out.1 r hr) (by decide)) (by unfold recsOf; simpa using hn)
      have CL5 : Hid (Calls Try.prog 33 #[.slice A n c] w5.drew fun e w' => ∃ A7 n7 c7, e = .returned (.slice A7 n7 c7) ∧ RecsAt w' w5.drew.heap.size (.slice A7 n7 c7) (recsOf R n) ∧ Below w5.drew.heap.size w5.drew w') := Lib.hid (hcl.mono fun e w' h => by
        obtain ⟨⟨v', rfl, h1, _⟩, h2⟩ := h
        obtain ⟨A7, c7, rfl⟩ := h1.form
        exact ⟨A7, _, c7, rfl, h1, h2⟩)
      have FN := Lib.hid (fun (w7 : World) (v2 : Value) (hb : Below w5.drew.heap.size w5.drew w7) (hre : RecsAt w7 w5.drew.heap.size v2 (recsOf R n)) => comp_fin (H5.out.below B5.out) (HRW5.out.of_block (B5.out.block gl HRW5.out.lt)) HLL.out.2.2.2.1 hb hre)
      clear hcl
      go_region_held3 (fun w' => w'.cell? ⟨bl, 0, none⟩ = some (.pointer (some ⟨gl, 0, none⟩)) ∧ w'.cell? ⟨br, 0, none⟩ = some (.slice A n c)) (first | exact D5.out | exact D7.out | exact D8.out | exact D9.out)
        (first
          | (go_at_call 33; refine CL5.out.mono ?_; rintro e w7 ⟨A7, n7, c7, rfl, r7, b7⟩; have FN7 := Lib.hid (FN.out w7 _ b7 r7); obtain ⟨⟨e1, z1⟩, ⟨e2, z2⟩, _⟩ := FN7.out; have D7 := Lib.hid (HBX.out w7 (HK5.out.trans (show Kept Z w5 w7 from ⟨fun k hk => b7.block k (by have := (HLL.out.z_lt k hk).2; exact Nat.lt_of_lt_of_le this HK5.out.2), b7.size⟩))); have D8 := Lib.hid (And.intro ((World.cell?_of_block (Below.heap_setCell w7 ⟨gl, 1, none⟩ (.pointer (some ⟨gq2, 0, none⟩)) bl HNE.out.1)).trans D7.out.1) ((World.cell?_of_block (Below.heap_setCell w7 ⟨gl, 1, none⟩ (.pointer (some ⟨gq2, 0, none⟩)) br HNE.out.2)).trans D7.out.2)); have D9 := Lib.hid (And.intro ((World.cell?_of_block (Below.heap_setCell (w7.setCell ⟨gl, 1, none⟩ (.pointer (some ⟨gq2, 0, none⟩))) ⟨gl, 2, none⟩ (.slice A7 n7 c7) bl HNE.out.1)).trans D8.out.1) ((World.cell?_of_block (Below.heap_setCell (w7.setCell ⟨gl, 1, none⟩ (.pointer (some ⟨gq2, 0, none⟩))) ⟨gl, 2, none⟩ (.slice A7 n7 c7) br HNE.out.2)).trans D8.out.2)); clear r7 b7))
      all_goals
        go_wp2
        go_end0
        exact .inr (.inr ⟨HOK.out, rfl, gq2, _, Q1, _, (by rw [← HG.out]; exact F4.out.2.2.2.1), F4.out.2.2.2.2.1, F4.out.2.2.2.2.2, FN7.out.2.2.1, HK5.out.trans FN7.out.2.2.2⟩)
    · have HF := Lib.hid (HP3.out hz2 hok)
      have hno : ¬ (n ≤ 200 ∧ sm ≤ hf ∧ g + 1 < 4294967296) := fun ⟨a, b, c⟩ => hok ⟨hz2, a, by rw [hsm, hhf]; exact b, by rw [hg]; exact c⟩
      rw [hg] at HGN
      rw [hhf] at HHF
      by_cases h200 : n ≤ 200
      · have j1 : ¬ ((n : Int) > 200) := by omega
        have d1 : decide ((n : Int) > 200) = false := decide_eq_false j1
        by_cases hsf : sm ≤ hf
        · have j2 : ¬ ((sm : Int) > (hf : Int)) := by omega
          have d2 : decide ((sm : Int) > (hf : Int)) = false := decide_eq_false j2
          obtain rfl : g = 4294967295 := by omega
          have h0 := Below.refl w.heap.size w
          clear hND e1 hz hz2 hok hno hL hS hbr hbl hR hR0 HP1 HP3 hsm hg hhf h200 hsf
          go_enter Try.func25, Try.ntmps25
          go_wp2_with (first
            | (go_at_call 26; refine HND.out.mono ?_; rintro e w2 ⟨rfl, hw⟩; subst hw)
            | (go_at_call 27; refine (HHF.out _ h0).mono ?_; rintro e w2 ⟨rfl, hw⟩; subst hw)
            | (go_at_call 13; refine (HGN.out _ h0).mono ?_; rintro e w2 ⟨rfl, hw⟩; subst hw))
          exact ⟨rfl, HF.out⟩
        · have j2 : (sm : Int) > (hf : Int) := by omega
          have d2 : decide ((sm : Int) > (hf : Int)) = true := decide_eq_true j2
          have h0 := Below.refl w.heap.size w
          clear hND e1 hz hz2 hok hno hL hS hbr hbl hR hR0 HP1 HP3 hsm hg hhf h200 hsf
          go_enter Try.func25, Try.ntmps25
          go_wp2_with (first
            | (go_at_call 26; refine HND.out.mono ?_; rintro e w2 ⟨rfl, hw⟩; subst hw)
            | (go_at_call 27; refine (HHF.out _ h0).mono ?_; rintro e w2 ⟨rfl, hw⟩; subst hw)
            | (go_at_call 13; refine (HGN.out _ h0).mono ?_; rintro e w2 ⟨rfl, hw⟩; subst hw))
          exact ⟨rfl, HF.out⟩
      · have j1 : (n : Int) > 200 := by omega
        have d1 : decide ((n : Int) > 200) = true := decide_eq_true j1
        have h0 := Below.refl w.heap.size w
        clear hND e1 hz hz2 hok hno hL hS hbr hbl hR hR0 HP1 HP3 hsm hg hhf h200
        go_enter Try.func25, Try.ntmps25
        go_wp2_with (first
          | (go_at_call 26; refine HND.out.mono ?_; rintro e w2 ⟨rfl, hw⟩; subst hw)
          | (go_at_call 27; refine (HHF.out _ h0).mono ?_; rintro e w2 ⟨rfl, hw⟩; subst hw)
          | (go_at_call 13; refine (HGN.out _ h0).mono ?_; rintro e w2 ⟨rfl, hw⟩; subst hw))
        exact ⟨rfl, HF.out⟩
end
end Go.Proofs.Ytmcbmbcfgefocaa
