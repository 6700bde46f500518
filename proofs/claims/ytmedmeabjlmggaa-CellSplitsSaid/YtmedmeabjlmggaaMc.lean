/- CellSplits: the document's Join. -/
import Derived.Test.YtmedmeabjlmggaaMb
import Derived.Deep.RegionHeld3
namespace Go.Proofs.Ytmedmeabjlmggaa
open Go.RowKit
set_option linter.unusedSimpArgs false
set_option linter.unusedVariables false

theorem alike_by {w : World} {A B : Option Addr} {n c m d : Nat} {X Y : Nat → CellD} (hA : CellsAt w A n X) (hB : CellsAt w B m Y) (hn : n ≤ 1000000) (hm : m ≤ 1000000) (hX : ∀ i, i < n → (X i).n ≤ 4611686018427387904) (hY : ∀ i, i < m → (Y i).n ≤ 4611686018427387904) :
    Calls Try.prog 13 #[.slice A n c, .slice B m d] w fun e w' => AlikePost w w' e n m X Y := by
  by_cases h : n = m
  · subst h
    exact alike_any A n c X B d Y w hA hB hn hX hY
  · exact alike_len A n c X B m d Y w h (by omega) (by omega)
theorem alike_yes {w : World} {A B : Option Addr} {n c m d : Nat} {X Y : Nat → CellD} (hA : CellsAt w A n X) (hB : CellsAt w B m Y) (hn : n ≤ 1000000) (hX : ∀ i, i < n → (X i).n ≤ 4611686018427387904) (hY : ∀ i, i < m → (Y i).n ≤ 4611686018427387904) (e : n = m) (hs : ∀ i, i < n → sameC (X i) (Y i)) :
    Calls Try.prog 13 #[.slice A n c, .slice B m d] w fun e w' => e = .returned (.bool true) ∧ Below w.heap.size w w' := by
  refine (alike_by hA hB hn (by omega) hX hY).mono ?_
  rintro e' w' ⟨⟨b, rfl, hb⟩, hbl⟩
  obtain rfl := hb.2 ⟨e, hs⟩
  exact ⟨rfl, hbl⟩
theorem alike_no {w : World} {A B : Option Addr} {n c m d : Nat} {X Y : Nat → CellD} (hA : CellsAt w A n X) (hB : CellsAt w B m Y) (hn : n ≤ 1000000) (hm : m ≤ 1000000) (hX : ∀ i, i < n → (X i).n ≤ 4611686018427387904) (hY : ∀ i, i < m → (Y i).n ≤ 4611686018427387904) (hs : ¬ (n = m ∧ ∀ i, i < n → sameC (X i) (Y i))) :
    Calls Try.prog 13 #[.slice A n c, .slice B m d] w fun e w' => e = .returned (.bool false) ∧ Below w.heap.size w w' := by
  refine (alike_by hA hB hn hm hX hY).mono ?_
  rintro e' w' ⟨⟨b, rfl, hb⟩, hbl⟩
  cases b
  · exact ⟨rfl, hbl⟩
  · exact absurd (hb.1 rfl) hs
set_option maxHeartbeats 2000000 in
theorem rjoin_none (A : Option Addr) (c : Nat) (X : Nat → CellD) (w : World) :
    Calls Try.prog 12 #[.slice A 0 c] w fun e w' => JoinOne w w' e 0 X := by
  have h0 : ¬ joinP 0 X := fun h => absurd h.1 (by omega)
  have HF := Lib.hid (show joinC 0 X = 2 ∧ joinL 0 X = 0 from ⟨if_neg h0, if_neg h0⟩)
  go_enter Try.func12, Try.ntmps12
  go_wp2
  go_ret2
  refine ⟨⟨.slice none 0 0, by rw [HF.out.1]; rfl, ?_⟩, Below.refl _ _⟩
  rw [HF.out.2]
  exact byt_none0

set_option maxRecDepth 100000 in
set_option maxHeartbeats 4000000 in
theorem rjoin_some (ad : Addr) (n c : Nat) (X : Nat → CellD) (w : World) (h : CellsAt w (some ad) n X) (h0 : 0 < n) (hn : n ≤ 1000000) (hX : ∀ i, i < n → (X i).n ≤ 3000) :
    Calls Try.prog 12 #[.slice (some ad) n c] w fun e w' => JoinOne w w' e n X := by
  have HC := Lib.hid h
  have HX := Lib.hid hX
  have hnz : ((n : Int) == 0) = false := by rw [beq_eq_false_iff_ne]; omega
  clear h hX
  go_enter Try.func12, Try.ntmps12
  go_wp2
  go_loopw [4, 5] (fun v4 v5 wr => ∃ k : Nat, k ≤ n ∧ k ≤ 9 ∧ v5 = .int .i64 (k : Nat) ∧ Own .u8 5 wr w.heap.size v4 (accN X k) (accF X k) ∧ Below w.heap.size w wr) (fun _ v5 _ => n - (intOf v5).toNat)
  case atStart => exact ⟨0, by omega, by omega, rfl, Own.nil, Below.refl _ _⟩
  case round =>
    obtain ⟨k, hk, hk9, rfl, hown, hbl⟩ := hrel
    have HO := Lib.hid hown
    have HB := Lib.hid hbl
    have hws := hbl.size
    clear hown hbl
    by_cases hin : k < n ∧ k < 9
    · obtain ⟨hlt, hl9⟩ := hin
      have hxk := (HC.out.keep HB.out).at_ hlt
      obtain ⟨p0, p1, p2, p3, p4, p5, p6, p7⟩ := hxk
      have q5 : wr.cell? ⟨(ad.add (k * 5)).block, (ad.add (k * 5)).off + 4, none⟩ = _ := p5
      have HRX := Lib.hid p6
      have HGX := Lib.hid p7
      have hxn := HX.out k hlt
      have hac := acc_le (X := X) (B := 3000) k fun i hi => HX.out i (by omega)
      have d9 : decide ((k : Int) < 9) = true := by rw [decide_eq_true_eq]; omega
      have dkn : decide ((k : Int) < (n : Int)) = true := by rw [decide_eq_true_eq]; omega
      have HS := Lib.hid (show accN X (k + 1) = accN X k + (X k).n ∧ accF X (k + 1) = appF (accF X k) (accN X k) (X k).f from ⟨rfl, rfl⟩)
      clear p1 p2 p3 p4 p5 p6 p7
      go_wp2_with (at_builtin; refine wpList_app rfl _ _ 24 rfl .u8 5 Try.underlying24 1 u8_info (by omega) w.heap.size _ (accN X k) (accF X k) rfl HO.out (X k).A (X k).n (X k).c _ rfl HRX.out HGX.out.2.2.2.2.2.2.2.2.2 (by omega) hws ?_; intro v2 w2 hown2 hb2 hs2)
      go_roundw
      case rel =>
        refine ⟨k + 1, by omega, by omega, by go_num, ?_, HB.out.trans hb2⟩
        rw [HS.out.1, HS.out.2]
        exact hown2
      case measure => simp [intOf]; omega
    · have hxk := (HC.out.keep HB.out).at_ h0
      obtain ⟨p0, p1, p2, p3, p4, p5, p6, p7⟩ := hxk
      have a0 : wr.cell? ad = some (.int .u32 ((X 0).g : Nat)) := by
        have : wr.cell? (ad.add (0 * 5)) = _ := p1
        rw [Nat.zero_mul] at this
        exact this
      have a1 : wr.cell? ⟨ad.block, ad.off + 1, none⟩ = some (.int .u32 ((X 0).s : Nat)) := p2
      have hg0 := p7.1
      have hs0 := p7.2.1
      clear p0 p1 p2 p3 p4 p5 p6 p7
      have hac := acc_le (X := X) (B := 3000) k fun i hi => HX.out i (by omega)
      have hgood : ∀ i, i < n → (X i).good := fun i hi => (HC.out.at_ hi).2.2.2.2.2.2.2
      have hlt256 := acc_lt (X := X) k fun i hi => hgood i (by omega)
      have hbyt := own_byt HO.out hlt256
      have HXC := Lib.hid (HC.out.keep HB.out)
      have HXL : Hid (∀ i, i < n → (X i).n ≤ 4611686018427387904) := fun i hi => by have := HX.out i hi; omega
      have HKC : Hid (∀ u, Below wr.heap.size wr u → u.cell? ad = some (.int .u32 ((X 0).g : Nat)) ∧ u.cell? ⟨ad.block, ad.off + 1, none⟩ = some (.int .u32 ((X 0).s : Nat))) := fun u hu => ⟨(hu.cell (block_lt_of_cell a0)).trans a0, (hu.cell (block_lt_of_cell a1)).trans a1⟩
      have HJT : Hid (joinP n X → k = n ∧ accN X k = joinN n X n ∧ ∀ j, j < accN X k → accF X k j = joinF X j) := fun hJ => by
        have h1 := join_few (hJ.2 0 h0)
        obtain rfl : k = n := by omega
        obtain ⟨h2, h3⟩ := acc_join hJ k (Nat.le_refl _)
        exact ⟨rfl, h2, h3⟩
      have dc : (¬ ((k : Int) < (n : Int)) ∧ decide ((k : Int) < (n : Int)) = false) ∨ ((k : Int) < (n : Int) ∧ ¬ ((k : Int) < 9) ∧ decide ((k : Int) < (n : Int)) = true ∧ decide ((k : Int) < 9) = false) := by
        by_cases hl : k < n
        · refine .inr ⟨by omega, by omega, by rw [decide_eq_true_eq]; omega, by rw [decide_eq_false_iff_not]; omega⟩
        · refine .inl ⟨by omega, by rw [decide_eq_false_iff_not]; omega⟩
      clear hin
      generalize accN X k = M at *
      generalize accF X k = f at *
      obtain ⟨Av, cv, rfl, hcv, hrv, hfv⟩ := hbyt
      have hcv2 : cv ≤ 9223372036854775807 := by
        rcases HO.out.2 with ⟨e, _⟩ | ⟨g', cap', cur', e, _, _, _, hm', _⟩
        · cases e; omega
        · cases e; simp only [maxLen] at hm'; omega
      have HSP : Hid (∀ u, Below wr.heap.size wr u → Calls Try.prog 10 #[.int .u32 ((X 0).g : Nat), .int .u32 ((X 0).s : Nat), .slice Av M cv] u fun e w' => SplitOne u w' e (X 0).g (X 0).s M f) := fun u hu =>
        (rsplit_by hg0 hs0 hcv hcv2 (hrv.below hu) hfv).mono fun e w' h => h.one
      have HSL : Hid (∀ (Y : Nat → CellD), (∀ i, i < needF M → PartOf (X 0).g (X 0).s M f i (Y i)) → ∀ i, i < needF M → (Y i).n ≤ 4611686018427387904) := fun Y hY i hi => by have := part_len (hY i hi) hi; omega
      have HNF := Lib.hid (need_few M)
      have HAR := Lib.hid (show Byt wr (.slice Av M cv) M f from ⟨Av, cv, rfl, hcv, hrv, hfv⟩)
      clear hgood hlt256 hrv hfv hg0 hs0 hac
      rcases dc with ⟨dkl, dkn⟩ | ⟨dkl, dk9, dkn, d9⟩
      all_goals
        by_cases hJ : joinP n X
        · obtain ⟨hkn, hM, hjf⟩ := HJT.out hJ
          have HJP : Hid (∀ Y : Nat → CellD, n = needF M ∧ ((∀ i, i < needF M → PartOf (X 0).g (X 0).s M f i (Y i)) → ∀ i, i < n → sameC (Y i) (X i))) := fun Y => join_parts hJ rfl rfl hM hjf
          have HNN := Lib.hid (HJP.out X).1
          have HE := Lib.hid (show joinC n X = 0 ∧ joinL n X = joinN n X n from ⟨if_pos hJ, if_pos hJ⟩)
          have hz0 : (if needF M = 0 then (1 : Int) else 0) = 0 := if_neg (by have := HNN.out; omega)
          have HMF := Lib.hid (show M = joinN n X n ∧ ∀ j, j < M → f j = joinF X j from ⟨hM, hjf⟩)
          clear hkn hM hjf hJ
          go_wp2
          go_region_held3 (fun u => u.cell? ad = some (.int .u32 ((X 0).g : Nat)) ∧ u.cell? ⟨ad.block, ad.off + 1, none⟩ = some (.int .u32 ((X 0).s : Nat))) (first | exact ⟨a0, a1⟩ | exact HKC.out _ hb2 | trivial | go_keep)
            (first | (go_at_call 10; refine Calls.mono (HSP.out _ (Below.drew_ (Below.refl _ _))) ?_; rintro e w2 ⟨⟨A2, c2, Y, rfl, hc2, hY, hP⟩, hb2d⟩; have hb2 : Below wr.heap.size wr w2 := ⟨hb2d.os, hb2d.tape, hb2d.output, hb2d.size, hb2d.block⟩; clear hb2d; rw [hz0]))
          all_goals
            have HB2 := Lib.hid (show Below wr.heap.size wr w2 from hb2)
            have HY2 := Lib.hid hY
            have HSC := Lib.hid ((HJP.out Y).2 hP)
            have HP2 := Lib.hid hP
            clear hb2 hY hP
            go_wp2_with (go_at_call 13; refine Calls.mono (alike_yes HY2.out (HXC.out.keep HB2.out) (by have := HNF.out; omega) (HSL.out Y HP2.out) HXL.out HNN.out.symm (by rw [← HNN.out]; exact HSC.out)) ?_; rintro e w3 ⟨rfl, hb3⟩)
            go_ret2
            refine ⟨⟨.slice Av M cv, by rw [HE.out.1]; rfl, ?_⟩, HB.out.trans ((HB2.out.trans (hb3.mono HB2.out.size)).mono hws)⟩
            rw [HE.out.2, ← HMF.out.1]
            exact (HAR.out.below (HB2.out.trans (hb3.mono HB2.out.size))).cast rfl HMF.out.2
        · have HE := Lib.hid (show joinC n X = 2 ∧ joinL n X = 0 from ⟨if_neg hJ, if_neg hJ⟩)
          have HNJ := Lib.hid hJ
          clear hJ
          by_cases hz : needF M = 0
          · have hz1 : (if needF M = 0 then (1 : Int) else 0) = 1 := if_pos hz
            clear hz
            go_wp2
            go_region_held3 (fun u => u.cell? ad = some (.int .u32 ((X 0).g : Nat)) ∧ u.cell? ⟨ad.block, ad.off + 1, none⟩ = some (.int .u32 ((X 0).s : Nat))) (first | exact ⟨a0, a1⟩ | exact HKC.out _ hb2 | trivial | go_keep)
              (first | (go_at_call 10; refine Calls.mono (HSP.out _ (Below.drew_ (Below.refl _ _))) ?_; rintro e w2 ⟨⟨A2, c2, Y, rfl, hc2, hY, hP⟩, hb2d⟩; have hb2 : Below wr.heap.size wr w2 := ⟨hb2d.os, hb2d.tape, hb2d.output, hb2d.size, hb2d.block⟩; clear hb2d; rw [hz1]))
            all_goals
              have HB2 := Lib.hid (show Below wr.heap.size wr w2 from hb2)
              clear hb2 hY hP
              go_wp2
              go_ret2
              refine ⟨⟨.slice none 0 0, by rw [HE.out.1]; rfl, ?_⟩, HB.out.trans (HB2.out.mono hws)⟩
              rw [HE.out.2]
              exact byt_none0
          · have hz0 : (if needF M = 0 then (1 : Int) else 0) = 0 := if_neg hz
            have HZ := Lib.hid hz
            clear hz
            go_wp2
            go_region_held3 (fun u => u.cell? ad = some (.int .u32 ((X 0).g : Nat)) ∧ u.cell? ⟨ad.block, ad.off + 1, none⟩ = some (.int .u32 ((X 0).s : Nat))) (first | exact ⟨a0, a1⟩ | exact HKC.out _ hb2 | trivial | go_keep)
              (first | (go_at_call 10; refine Calls.mono (HSP.out _ (Below.drew_ (Below.refl _ _))) ?_; rintro e w2 ⟨⟨A2, c2, Y, rfl, hc2, hY, hP⟩, hb2d⟩; have hb2 : Below wr.heap.size wr w2 := ⟨hb2d.os, hb2d.tape, hb2d.output, hb2d.size, hb2d.block⟩; clear hb2d; rw [hz0]))
            all_goals
              have HB2 := Lib.hid (show Below wr.heap.size wr w2 from hb2)
              have HY2 := Lib.hid hY
              have HP2 := Lib.hid hP
              clear hb2 hY hP
              go_wp2_with (go_at_call 13; refine Calls.mono (alike_no HY2.out (HXC.out.keep HB2.out) (by have := HNF.out; omega) hn (HSL.out Y HP2.out) HXL.out (fun h => HNJ.out (parts_alike h.1.symm h0 HP2.out (fun i hi => h.2 i (by rw [h.1]; exact hi))))) ?_; rintro e w3 ⟨rfl, hb3⟩)
              go_ret2
              refine ⟨⟨.slice none 0 0, by rw [HE.out.1]; rfl, ?_⟩, HB.out.trans ((HB2.out.trans (hb3.mono HB2.out.size)).mono hws)⟩
              rw [HE.out.2]
              exact byt_none0
theorem rjoin_by {A : Option Addr} {n c : Nat} {X : Nat → CellD} {w : World} (h : CellsAt w A n X) (hn : n ≤ 1000000) (hX : ∀ i, i < n → (X i).n ≤ 3000) :
    Calls Try.prog 12 #[.slice A n c] w fun e w' => JoinOne w w' e n X := by
  by_cases h0 : 0 < n
  · obtain ⟨ad, rfl, _⟩ := h 0 h0
    exact rjoin_some ad n c X w h h0 hn hX
  · obtain rfl : n = 0 := by omega
    exact rjoin_none A c X w
end Go.Proofs.Ytmedmeabjlmggaa
