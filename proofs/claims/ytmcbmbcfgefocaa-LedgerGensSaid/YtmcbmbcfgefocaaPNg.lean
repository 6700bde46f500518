/- Contract: records. -/
import Derived.Test.YtmcbmbcfgefocaaPNh
import Derived.OwnWalkIn
import Derived.RangeFuncCalls
import Derived.Sort.QuietIn
import Derived.Sort.LoopGhostIn
namespace Go.Proofs.Ytmcbmbcfgefocaa
open Go.RowKit Go.Shelf
set_option linter.unusedSimpArgs false
set_option linter.unusedVariables false
attribute [local go_sem] Oper.semAt_some

/-- A loop over sectors: where it stands. -/
def LoopS (w : World) (gq B1 B2 B3 B4 B5 B6 : Nat) (Q : QS) (S : DS) (n : Nat) (a : Act) (V : World) : Prop :=
  ∃ (E L : Nat) (rs : List Rec) (v4 : Value) (ds : List Nat) (u7 u8 u9 u10 u15 u16 u17 u18 u19 u20 u21 u22 u23 u24 u25 u26 u27 u28 u29 u30 u31 u32 u33 u34 u35 u36 u37 u38 u39 u40 u41 u42 u43 u44 u45 u46 u47 u48 u49 u50 u51 u52 u53 u54 u55 u56 : Value), n = Q.behind - E ∧ OutS w gq B1 B2 B3 B4 B5 B6 V E L rs v4 ds ∧ Hist (rdS S) Q E L rs ∧ a = { tmps := #[.pointer (some ⟨gq, 0, none⟩), .pointer (some ⟨B1, 0, none⟩), .pointer (some ⟨B2, 0, none⟩), .pointer (some ⟨B3, 0, none⟩), .pointer (some ⟨B4, 0, none⟩), .pointer (some ⟨B5, 0, none⟩), .pointer (some ⟨B6, 0, none⟩), u7, u8, u9, u10, .pointer (some ⟨gq, 0, none⟩), .pointer (some ⟨gq, 0, none⟩), .pointer (some ⟨gq, 1, none⟩), .int .i64 (Q.first : Nat), u15, u16, u17, u18, u19, u20, u21, u22, u23, u24, u25, u26, u27, u28, u29, u30, u31, u32, u33, u34, u35, u36, u37, u38, u39, u40, u41, u42, u43, u44, u45, u46, u47, u48, u49, u50, u51, u52, u53, u54, u55, u56], defers := ds.map markD }
set_option maxRecDepth 100000 in
set_option maxHeartbeats 8000000 in
theorem records_any {F : Nat → Prop} {w : World} {gq gd : Nat} {Q : QS} {S : DS} (hd : DskAt F w gd S) (hq : SBox w gq gd Q) : Calls Try.prog 61 #[.pointer (some ⟨gq, 0, none⟩)] w fun e w' => RecPost (rdS S) Q w w' e := by
  have HD : Hid (∀ V, Below w.heap.size w V → DskAt F V gd S) := fun V hV => hd.keep (fun k hk => hV.block k (hd.lt k hk)) hV.size
  have HQ : Hid (∀ V, Below w.heap.size w V → SBox V gq gd Q) := fun V hV => hq.below hV
  have hqok := hq.2
  obtain ⟨w1, hw1⟩ : ∃ w1, (((w.alloc (.cells #[.pointer (some ⟨gq, 0, none⟩)] 54)).alloc (.cells #[.slice none 0 0] 33)).alloc (.cells #[.int .i64 0] 3)).alloc (.cells #[.slice none 0 0] 33) = w1 := ⟨_, rfl⟩
  have hb1 : Below w.heap.size w w1 := by rw [← hw1]; exact (((below_new _ _).trans ((below_new _ _).mono (by simp))).trans ((below_new _ _).mono (by simp; omega))).trans ((below_new _ _).mono (by simp; omega))
  have hs1 : w1.heap.size = w.heap.size + 4 := by rw [← hw1]; simp
  obtain ⟨c0, c1, c2, c3, c4, c5⟩ := (hq.below hb1).cells
  have y1 : Boxed w1 w.heap.size 54 (.pointer (some ⟨gq, 0, none⟩)) := by rw [← hw1]; exact (((Boxed.new w _ _).alloc _).alloc _).alloc _
  have y2 : Boxed w1 (w.heap.size + 1) 33 (.slice none 0 0) := by
    rw [← hw1]
    have := Boxed.new (w.alloc (.cells #[.pointer (some ⟨gq, 0, none⟩)] 54)) 33 (.slice none 0 0)
    rw [World.size_alloc] at this
    exact (this.alloc _).alloc _
  have y3 : Boxed w1 (w.heap.size + 1 + 1) 3 (.int .i64 0) := by
    rw [← hw1]
    have := Boxed.new ((w.alloc (.cells #[.pointer (some ⟨gq, 0, none⟩)] 54)).alloc (.cells #[.slice none 0 0] 33)) 3 (.int .i64 0)
    rw [World.size_alloc, World.size_alloc] at this
    exact this.alloc _
  have y4 : Boxed w1 (w.heap.size + 1 + 1 + 1) 33 (.slice none 0 0) := by
    rw [← hw1]
    have := Boxed.new (((w.alloc (.cells #[.pointer (some ⟨gq, 0, none⟩)] 54)).alloc (.cells #[.slice none 0 0] 33)).alloc (.cells #[.int .i64 0] 3)) 33 (.slice none 0 0)
    rw [World.size_alloc, World.size_alloc, World.size_alloc] at this
    exact this
  have x1 := y1.cell
  have HY := Lib.hid (show _ ∧ _ ∧ _ ∧ _ ∧ _ ∧ _ from ⟨y1, y2, y3, y4, hb1, hs1⟩)
  clear y1 y2 y3 y4 hb1 hq hd hs1
  refine (callsIn_wide (n := 5)).1 ?_
  refine callsIn_of_wp_marks Try.func61 rfl trivial ?_ rfl
  simp only [Try.ntmps61, List.size_toArray, List.length_cons, List.length_nil, Nat.reduceAdd, Nat.reduceSub, Array.replicate_succ, Array.replicate_zero, List.push_toArray, List.append_toArray, List.nil_append, List.cons_append]
  gi_wp2
  refine wpIn_scope' ?_
  gi_wp2
  refine wpIn_label ?_
  gi_wp2
  clear c0 c1 c2 c3 c4 c5 x1
  obtain ⟨y1, y2, y3, y4, hb1, hs1⟩ := HY.out
  obtain ⟨w3, hw3⟩ : ∃ w3, (w1.alloc (.cells #[.int .i64 (Q.first : Nat)] 3)).alloc (.cells #[.int .u32 0] 31) = w3 := ⟨_, rfl⟩
  have h13 : Below w1.heap.size w1 w3 := by rw [← hw3]; exact (below_new _ _).trans ((below_new _ _).mono (by simp))
  have y5 : Boxed w3 w1.heap.size 3 (.int .i64 (Q.first : Nat)) := by rw [← hw3]; exact (Boxed.new w1 _ _).alloc _
  have y6 : Boxed w3 (w1.heap.size + 1) 31 (.int .u32 0) := by
    rw [← hw3]
    have := Boxed.new (w1.alloc (.cells #[.int .i64 (Q.first : Nat)] 3)) 31 (.int .u32 0)
    rw [World.size_alloc] at this
    exact this
  rw [hw3]
  have hOut : OutS w gq w.heap.size (w.heap.size + 1) (w.heap.size + 1 + 1) (w.heap.size + 1 + 1 + 1) w1.heap.size (w1.heap.size + 1) w3 Q.first 0 [] (.slice none 0 0) [] :=
    ⟨hb1.trans (h13.mono hb1.size), boxed_below y1 h13, boxed_below y2 h13, boxed_below y3 h13, boxed_below y4 h13, RecsAt.nil _ _, y5, y6, fun D hD => by simp at hD, List.nodup_nil, fun D hD => by simp at hD, by omega⟩
  have hns : w.heap.size < w.heap.size + 1 ∧ w.heap.size + 1 < w.heap.size + 1 + 1 ∧ w.heap.size + 1 + 1 < w.heap.size + 1 + 1 + 1 ∧ w.heap.size + 1 + 1 + 1 < w1.heap.size ∧ w1.heap.size < w1.heap.size + 1 := by omega
  clear y1 y2 y3 y4 y5 y6 hb1 hs1 HY h13 hw3 hw1
  obtain ⟨B1, hB1⟩ : ∃ B, w.heap.size = B := ⟨_, rfl⟩
  have HB1 := Lib.hid hB1
  rw [hB1] at hOut hns ⊢
  generalize B1 + 1 = B2 at *
  generalize B2 + 1 = B3 at *
  generalize B3 + 1 = B4 at *
  generalize w1.heap.size = B5 at *
  generalize B5 + 1 = B6 at *
  clear hB1
  refine wpIn_loop_ghost (LoopS w gq B1 B2 B3 B4 B5 B6 Q S) (Q.behind - Q.first) ⟨Q.first, 0, [], .slice none 0 0, [], _, _, _, _, _, _, _, _, _, _, _, _, _, _, _, _, _, _, _, _, _, _, _, _, _, _, _, _, _, _, _, _, _, _, _, _, _, _, _, _, _, _, _, _, _, _, rfl, hOut, ⟨Nat.le_refl _, Nat.le_trans hqok.1 hqok.2.1, Nat.zero_le _, fun rest e l h => h⟩, rfl⟩ ?_
  rintro n a V ⟨E, L, rs, v4, ds, u7, u8, u9, u10, u15, u16, u17, u18, u19, u20, u21, u22, u23, u24, u25, u26, u27, u28, u29, u30, u31, u32, u33, u34, u35, u36, u37, u38, u39, u40, u41, u42, u43, u44, u45, u46, u47, u48, u49, u50, u51, u52, u53, u54, u55, u56, rfl, hO, hH, rfl⟩
  obtain ⟨hE1, hE2, hrl, hH3⟩ := hH
  have hbV := hO.bel
  have hEb : (E : Int) ≤ 1000 := by have := hqok.2.2.1; omega
  obtain ⟨V1, hV1⟩ : ∃ V1, V.alloc (.cells #[.slice none 0 0] 114) = V1 := ⟨_, rfl⟩
  have hO1 : OutS w gq B1 B2 B3 B4 B5 B6 V1 E L rs v4 ds := hO.fl (fl_below (by rw [← hV1]; exact below_new _ _)) (by rw [← hV1]; exact hbV.trans ((below_new _ _).mono hbV.size))
  have z1 := hO1.x1.cell
  have z5 := hO1.x5.cell
  have y7 : Boxed V1 V.heap.size 114 (.slice none 0 0) := by rw [← hV1]; exact Boxed.new _ _ _
  have HO1 := Lib.hid hO1
  clear hO hO1
  gi_wp2_with (refine ⟨trivial, ?_⟩; gi_at_call 70; refine (callsIn_wide.2 (following_any gq E _)).mono ?_; rintro e w' ⟨rfl, rfl⟩)
  obtain ⟨V3, hV3⟩ : ∃ V3, (V1.alloc (.cells #[.pointer (some ⟨gq, 0, none⟩)] 54)).alloc (.cells #[.int .i64 (E : Nat)] 3) = V3 := ⟨_, rfl⟩
  have h13 : Below V1.heap.size V1 V3 := by rw [← hV3]; exact (below_new _ _).trans ((below_new _ _).mono (by simp))
  have yq : Boxed V3 V1.heap.size 54 (.pointer (some ⟨gq, 0, none⟩)) := by rw [← hV3]; exact (Boxed.new V1 _ _).alloc _
  have yi : Boxed V3 (V1.heap.size + 1) 3 (.int .i64 (E : Nat)) := by
    rw [← hV3]
    have := Boxed.new (V1.alloc (.cells #[.pointer (some ⟨gq, 0, none⟩)] 54)) 3 (.int .i64 (E : Nat))
    rw [World.size_alloc] at this
    exact this
  rw [hV3]
  generalize hBi : V1.heap.size + 1 = Bi at *
  have hIn : InS (rdS S) Q w gq B1 B2 B3 B4 B5 B6 V.heap.size Bi V1.heap.size E L rs v4 ds [] (.slice none 0 0) V3 :=
    ⟨HO1.out.fl (fl_below h13) (HO1.out.bel.trans (h13.mono HO1.out.bel.size)), boxed_below y7 h13, ⟨rfl, .inl ⟨rfl, rfl⟩⟩, yi, yq, fun i D h => by simp at h, hE2, fun q h1 h2 => absurd h2 (by simp; omega)⟩
  have hBq : V1.heap.size < Bi := by omega
  clear z1 z5 y7 h13 yq yi hV3 hBi
  generalize V1.heap.size = Bq at *
  obtain ⟨B7, hB7⟩ : ∃ B, V.heap.size = B := ⟨_, rfl⟩
  rw [hB7] at hIn ⊢
  have HIN := Lib.hid hIn
  have HNB := Lib.hid (show w.heap.size ≤ B4 ∧ ¬ B2 = B4 ∧ (w.heap.size ≤ B5 ∧ B5 < B6) ∧ ¬ B3 = B5 ∧ w.heap.size ≤ B7 from by have := HB1.out; have := hbV.size; omega)
  have HNS := Lib.hid (show w.heap.size ≤ B2 ∧ B2 < B3 from by have := HB1.out; omega)
  have HND : Hid ((V3.heap.size :: ds).Nodup) := List.nodup_cons.2 ⟨fun hm => by have := (Array.getElem?_eq_some_iff.1 (hIn.out.dfs _ hm)).1; omega, hIn.out.nd⟩
  have HGE : Hid (∀ D ∈ V3.heap.size :: ds, w.heap.size ≤ D) := fun D hD => (List.mem_cons.1 hD).elim (fun e => by rw [e]; exact hIn.out.bel.size) (hIn.out.dge D)
  refine rangeOwn (encs := encD) (M := FolM F gd gq Bi Bq E Q S) (G := FolG E S) (Kp := fun _ _ => True) (S := FolS E Q S) (Sp := fun _ => True) (N := Q.behind - E) rfl (enters_of Try.func81 (by kernel_rfl) rfl) (fun _ => rfl) (fun W1 _ _ => following1_in 4 hE2 W1)
    (fun pre W => ∃ v7, InS (rdS S) Q w gq B1 B2 B3 B4 B5 B6 B7 Bi Bq E L rs v4 ds pre v7 W)
    (fun c pre W => (c = .ret ∧ ∃ rs' en, FinS (rdS S) Q w B2 B3 W ds rs' en) ∨ (c = .exit 1 ∧ ∃ E' L' rs' v4', OutS w gq B1 B2 B3 B4 B5 B6 W E' L' rs' v4' ds ∧ Hist (rdS S) Q E' L' rs' ∧ E < E'))
    (fun pre x a' W => ∃ v7 B8, InS (rdS S) Q w gq B1 B2 B3 B4 B5 B6 B7 Bi Bq E L rs v4 ds pre v7 W ∧ FolG E S pre x W ∧ pre.length < Q.behind - E ∧ BoxH W B8 x.g x.s x.p x.q x.A x.n x.c ∧ (∀ g, v7.ownBlock = some g → g ≠ B8) ∧
      a' = { tmps := #[.pointer (some ⟨gq, 0, none⟩), .pointer (some ⟨B1, 0, none⟩), .pointer (some ⟨B2, 0, none⟩), .pointer (some ⟨B3, 0, none⟩), .pointer (some ⟨B4, 0, none⟩), .pointer (some ⟨B5, 0, none⟩), .pointer (some ⟨B6, 0, none⟩), .pointer (some ⟨B7, 0, none⟩), .pointer (some ⟨B8, 0, none⟩), u9, u10, .pointer (some ⟨gq, 0, none⟩), .pointer (some ⟨gq, 0, none⟩), .pointer (some ⟨gq, 1, none⟩), .int .i64 (Q.first : Nat), .pointer (some ⟨gq, 0, none⟩), .int .i64 (E : Nat), .func (.func 81) #[] #[.pointer (some ⟨Bi, 0, none⟩), .pointer (some ⟨Bq, 0, none⟩)], x.val, u19, u20, u21, u22, u23, u24, u25, u26, u27, u28, u29, u30, u31, u32, u33, u34, u35, u36, u37, u38, u39, u40, u41, u42, u43, u44, u45, u46, u47, u48, u49, u50, u51, u52, u53, u54, u55, u56], defers := [] })
    ?hM ?hI ?hIx ?hIp ?hIxp ?hAp (fun _ _ => trivial) (fun _ _ _ _ => trivial) ⟨_, hIn⟩ ?assign ?body ?done ?stop
  case hM =>
    rintro pre W ⟨v7, h⟩
    exact ⟨h.xi, h.xq, HQ.out _ h.out.bel, HD.out _ h.out.bel⟩
  case hI =>
    rintro pre W W' ⟨v7, h⟩ hb
    exact ⟨v7, h.fl (fl_below hb) (h.out.bel.trans (hb.mono h.out.bel.size))⟩
  case hIx =>
    rintro c pre W W' (⟨rfl, rs', en, h⟩ | ⟨rfl, E', L', rs', v4', h, hh⟩) hb
    · exact .inl ⟨rfl, rs', en, h.fl (fl_below hb) (h.bel.trans (hb.mono h.bel.size))⟩
    · exact .inr ⟨rfl, E', L', rs', v4', h.fl (fl_below hb) (h.bel.trans (hb.mono h.bel.size)), hh⟩
  case hIp =>
    rintro pre W r o hl ⟨v7, h⟩
    exact ⟨v7, h.fl (fl_put hl o) (put_belowW o (by have := HIN.out.out.bel.size; omega) h.out.bel)⟩
  case hIxp =>
    rintro c pre W r o hl (⟨rfl, rs', en, h⟩ | ⟨rfl, E', L', rs', v4', h, hh⟩)
    · exact .inl ⟨rfl, rs', en, h.fl (fl_put hl o) (put_belowW o (by have := HIN.out.out.bel.size; omega) h.bel)⟩
    · exact .inr ⟨rfl, E', L', rs', v4', h.fl (fl_put hl o) (put_belowW o (by have := HIN.out.out.bel.size; omega) h.bel), hh⟩
  case hAp =>
    rintro pre x a' W r o hl ⟨v7, B8, h1, h2, h3, h4, h5, h6⟩
    exact ⟨v7, B8, h1.fl (fl_put hl o) (put_belowW o (by have := HIN.out.out.bel.size; omega) h1.out.bel), ⟨(fl_put hl o).hasD h2.1, h2.2⟩, h3, (fl_put hl o).boxH h4, h5, h6⟩
  case assign =>
    rintro pre x W r K ⟨v7, h⟩ hg hl hd hlen hK
    have hnw := below_new W (objD x)
    have HK := Lib.hid hK
    clear hK
    gi_wp2
    refine HK.out _ _ ⟨v7, W.heap.size, h.fl (fl_below hnw) (h.out.bel.trans (hnw.mono h.out.bel.size)), ⟨hg.1.below hnw, hg.2⟩, hlen, BoxH.new W x.g x.s x.p x.q x.A x.n x.c, fun g hg => ?_, rfl⟩ (hnw.block _ (Array.getElem?_eq_some_iff.1 hd).1) (hnw.block _ (Array.getElem?_eq_some_iff.1 hl).1) trivial
    have := (World.ownsRow.lt h.own g hg).2
    omega
  case body =>
    rintro pre x a' W ⟨v7, B8, hin, hg, hlen, hbx, hne, rfl⟩ hdf hlp
    have HI := Lib.hid hin
    have HG := Lib.hid hg
    have HBX := Lib.hid hbx
    have HNE := Lib.hid hne
    have HDF := Lib.hid hdf
    have z1 := hin.out.x1.cell
    have z2 := hin.out.x2.cell
    have z3 := hin.out.x3.cell
    have z4 := hin.out.x4.cell
    have z5 := hin.out.x5.cell
    have z6 := hin.out.x6.cell
    have z7 := hin.x7.cell
    have f2 := hin.out.x2.frozen
    have f3 := hin.out.x3.frozen
    have f7 := hin.x7.frozen
    obtain ⟨_, _, _, d3, _, _⟩ := (HQ.out _ hin.out.bel).cells
    obtain ⟨e0, e1, e2, e3, e4⟩ := hbx.boxc
    have hxg := hg.1.2.1.1
    have hxs := hg.1.2.1.2.1
    have hL := hin.out.lim
    have hQg := hqok.2.2.2.1
    have HLP := Lib.hid hlp
    obtain ⟨A4, c4, rfl⟩ := hin.out.recs.form
    clear hin hg hbx hne hdf hlp
    by_cases hga : x.g = Q.gen
    · by_cases hsl : x.s ≤ L
      · have HNO : Hid (∀ q, ¬ recP (rdS S) Q.behind Q.gen E L q) := rec_alien HI.out.non (.inr (by rw [← HG.out.2.2.2.1]; exact hsl))
        have q1 : ((x.g : Int) != (Q.gen : Int)) = false := by rw [bne_eq_false_iff_eq]; omega
        have q2 : decide ((x.s : Int) ≤ (L : Int)) = true := by rw [decide_eq_true_eq]; omega
        have q3 : (x.s : Int) ≤ (L : Int) := by omega
        gi_wp2
        refine region_quiet_round (by kernel_rfl) (by kernel_rfl) (by kernel_rfl) ?_
        repeat (gi_big_quiet_step (fail))
        refine wpQuietIn_nil ?_
        rintro _ ⟨nq, rfl⟩
        gi_wp2
        refine region_round (by kernel_rfl) (by kernel_rfl) ?_
        refine wpAnyIn_ready (rs := [0, 1]) (by kernel_rfl) (by simp) ?_
        refine AllReadyIn.cons rfl (fun K hK => ?_) ?_
        · go_simp
          refine hK _ _ ?_
          clear hK K
          refine wpAnyIn_ready (rs := [1, 2]) (by kernel_rfl) (by simp) ?_
          refine AllReadyIn.cons rfl (fun K hK => ?_) ?_
          · go_simp
            refine hK _ _ ?_
            clear hK K
            refine wpAnyIn_ready (rs := [2]) (by kernel_rfl) (by simp) ?_
            refine AllReadyIn.cons rfl (fun K hK => ?_) ?_
            · go_simp
              refine hK _ _ ?_
              clear hK K
              refine wpAnyIn_ready (rs := [3]) (by kernel_rfl) (by simp) ?_
              refine AllReadyIn.cons rfl (fun K hK => ?_) ?_
              · go_simp
                refine hK _ _ ?_
                clear hK K
                refine wpAnyIn_done (by kernel_rfl) ?_ _
                gi_wp2
                have hAF := alien_fin HI.out HNS.out ⟨hE1, hE2, hrl, hH3⟩ HNO.out HDF.out HLP.out (nq + 1)
                exact ⟨hAF.1, .inl ⟨rfl, hAF.2⟩⟩
              exact AllReadyIn.nil
            exact AllReadyIn.nil
          refine AllReadyIn.cons rfl (fun K hK => ?_) ?_
          · go_simp
            refine hK _ _ ?_
            clear hK K
            refine wpAnyIn_ready (rs := [1]) (by kernel_rfl) (by simp) ?_
            refine AllReadyIn.cons rfl (fun K hK => ?_) ?_
            · go_simp
              refine hK _ _ ?_
              clear hK K
              refine wpAnyIn_ready (rs := [3]) (by kernel_rfl) (by simp) ?_
              refine AllReadyIn.cons rfl (fun K hK => ?_) ?_
              · go_simp
                refine hK _ _ ?_
                clear hK K
                refine wpAnyIn_done (by kernel_rfl) ?_ _
                gi_wp2
                have hAF := alien_fin HI.out HNS.out ⟨hE1, hE2, hrl, hH3⟩ HNO.out HDF.out HLP.out (nq + 1)
                exact ⟨hAF.1, .inl ⟨rfl, hAF.2⟩⟩
              exact AllReadyIn.nil
            exact AllReadyIn.nil
          exact AllReadyIn.nil
        refine AllReadyIn.cons rfl (fun K hK => ?_) ?_
        · go_simp
          refine hK _ _ ?_
          clear hK K
          refine wpAnyIn_ready (rs := [0]) (by kernel_rfl) (by simp) ?_
          refine AllReadyIn.cons rfl (fun K hK => ?_) ?_
          · go_simp
            refine hK _ _ ?_
            clear hK K
            refine wpAnyIn_ready (rs := [2]) (by kernel_rfl) (by simp) ?_
            refine AllReadyIn.cons rfl (fun K hK => ?_) ?_
            · go_simp
              refine hK _ _ ?_
              clear hK K
              refine wpAnyIn_ready (rs := [3]) (by kernel_rfl) (by simp) ?_
              refine AllReadyIn.cons rfl (fun K hK => ?_) ?_
              · go_simp
                refine hK _ _ ?_
                clear hK K
                refine wpAnyIn_done (by kernel_rfl) ?_ _
                gi_wp2
                have hAF := alien_fin HI.out HNS.out ⟨hE1, hE2, hrl, hH3⟩ HNO.out HDF.out HLP.out (nq + 1)
                exact ⟨hAF.1, .inl ⟨rfl, hAF.2⟩⟩
              exact AllReadyIn.nil
            exact AllReadyIn.nil
          exact AllReadyIn.nil
        exact AllReadyIn.nil
      · have hsl2 : L < x.s := by omega
        have q1 : ((x.g : Int) != (Q.gen : Int)) = false := by rw [bne_eq_false_iff_eq]; omega
        have q2 : decide ((x.s : Int) ≤ (L : Int)) = false := by rw [decide_eq_false_iff_not]; omega
        have q3 : ¬ (x.s : Int) ≤ (L : Int) := by omega
        have HGA := Lib.hid hga
        have HSL := Lib.hid hsl2
        clear hga hsl hsl2
        gi_wp2
        refine region_quiet_round (by kernel_rfl) (by kernel_rfl) (by kernel_rfl) ?_
        repeat (gi_big_quiet_step (fail))
        refine wpQuietIn_nil ?_
        rintro _ ⟨nq, rfl⟩
        obtain ⟨U, hU⟩ : ∃ U, W.drewN nq = U := ⟨_, rfl⟩
        have hIU : InS (rdS S) Q w gq B1 B2 B3 B4 B5 B6 B7 Bi Bq E L rs (.slice A4 rs.length c4) ds pre v7 U := by rw [← hU]; exact HI.out.fl (fl_drewN W nq) (Below.drewN_ HI.out.out.bel nq)
        have hGU : HasD U x := by rw [← hU]; exact HG.out.1
        have hXU : BoxH U B8 x.g x.s x.p x.q x.A x.n x.c := by rw [← hU]; exact HBX.out
        have hDU : U.heap[V3.heap.size]? = some (.deferred (some [])) := by rw [← hU]; exact HDF.out
        have hLU : ∃ r, U.heap[V3.heap.size + 1]? = some (.loop r) := by rw [← hU]; exact HLP.out
        have HUW : Hid (∀ k : Nat, U.heap[k]? = W.heap[k]?) := by rw [← hU]; exact fun k => rfl
        rw [hU]
        clear hU z1 z2 z3 z4 z5 z6 z7 f2 f3 f7 d3 e0 e1 e2 e3 e4
        have z7 := hIU.x7.cell
        obtain ⟨e0, e1, e2, e3, e4⟩ := hXU.boxc
        have hpl : pre.length ≤ 1000 := by have := hqok.2.2.1; omega
        have hrl2 : rs.length ≤ 1000 := by have := hqok.2.2.1; omega
        have hUs := hIU.out.bel.size
        obtain ⟨i0, hi, hz0, hz1, hz2⟩ := info_parts cell_info
        obtain ⟨j0, hji, hj0, hj1, hj2⟩ := info_parts row_info
        have HIU := Lib.hid hIU
        have HGU := Lib.hid hGU
        have HXU := Lib.hid hXU
        have HDU := Lib.hid hDU
        have HLU := Lib.hid hLU
        have hlt8 : E + pre.length < Q.behind := by omega
        have heL : (pre ++ [x]).length = pre.length + 1 := by simp
        have HEL := Lib.hid heL
        clear hIU hGU hXU hDU hLU heL
        by_cases hj : joinP (pre.length + 1) (listX (pre ++ [x]))
        · have HJ := Lib.hid hj
          clear hj
          gi_wp2_with (first
            | (gi_at_builtin; refine wpListIn_append_own _ rfl _ _ 114 rfl w.heap.size 106 i0 (cellV 0 0 0 0 none 0 0) 5 48 Try.underlying114 hi hz0 hz1 hz2 rfl (by decide) _ _ _ rfl (World.ownsRow.alloc HIU.out.own _) ⟨U.heap.size, 0, none⟩ 1 1 (cellL x) rfl rfl (new_get _ _ _) (cellL_one _) (by simp only [maxLen]; omega) (by omega) (by simp; omega) ?_; intro v' w1 hown' hgrow _; obtain ⟨g', cap', rfl⟩ := ownsRow_succ hown'; obtain ⟨m1, m2, m3, m4⟩ := ins_step1 HIU.out ⟨HGU.out, HG.out.2⟩ hlt8 HXU.out HNE.out HGA.out HSL.out hown' hgrow HNB.out.2.2.2.2 HDU.out HLU.out; have M1 := Lib.hid m1; have M2 := Lib.hid m2; have M3 := Lib.hid m3; have hc1 := m4.cell; have hf1 := m4.frozen; have hc2 := m1.x7.cell; clear m1 m2 m3 m4 hown' hgrow)
            | (refine ⟨trivial, ?_⟩; gi_at_call 71; refine (CallsIn.inRound _ (callsIn_wide.2 (join_by (InM.cells' HEL.out M1.out) (by omega)))).mono ?_; rintro e w4 ⟨hp, hb4⟩; obtain ⟨_, v, rfl, hv, ht⟩ := hp.resolve_right (fun h => h.1 HJ.out); have M4 := Lib.hid (M1.out.fl (fl_below hb4) (M1.out.out.bel.trans (hb4.mono M1.out.out.bel.size))); have M5 := Lib.hid (M2.out.below hb4); have hu := M4.out.recR_ (by rw [HEL.out]; exact HJ.out) (by rw [HEL.out]; exact hv); rw [HEL.out] at hu; have HU2 := Lib.hid (show _ ∧ _ from ⟨hu, ht⟩); have hdd := hb4.block V3.heap.size (by have := (Array.getElem?_eq_some_iff.1 (M3.out.1.trans HDU.out)).1; exact this); have hll := hb4.block (V3.heap.size + 1) (by obtain ⟨r, hr⟩ := HLU.out; have := (Array.getElem?_eq_some_iff.1 (M3.out.2.trans hr)).1; exact this); have HDD := Lib.hid (show _ ∧ _ from ⟨hdd.trans M3.out.1, hll.trans M3.out.2⟩); obtain ⟨Av, cv, rfl, _⟩ := hv; obtain ⟨vs, hvs, hrows⟩ := M4.out.out.recs; have HVS := Lib.hid (show _ ∧ _ from ⟨hvs, hrows⟩); have hw4s := M4.out.out.bel.size; have z4 := M4.out.out.x4.cell; clear hc1 hf1 hc2 hp hb4 ht hu hdd hll hvs hrows z7 e0 e1 e2 e3 e4)
            | (gi_at_builtin; refine wpListIn_append_own _ rfl _ _ 33 rfl w.heap.size 35 j0 (.slice none 0 0) 1 24 Try.underlying33 hji hj0 hj1 hj2 rfl (by decide) _ _ _ rfl (World.ownsRow.alloc HVS.out.1 _) ⟨w4.heap.size, 0, none⟩ 1 1 [.slice Av (joinN (pre.length + 1) (listX (pre ++ [x])) (pre.length + 1)) cv] rfl rfl (new_get _ _ _) (by simp [Value.oneCell']) (by simp only [maxLen]; omega) (by omega) (by simp; omega) ?_; intro v5 w5 hown5 hgrow5 _; obtain ⟨g5, cap5, rfl⟩ := ownsRow_succ hown5; obtain ⟨o1, o2, o3, o4, o5⟩ := out_step2 (r := recR (rdS S) E (pre.length + 1)) (D0 := V3.heap.size) M4.out M5.out HVS.out.1 HVS.out.2 HU2.out hown5 hgrow5 HNB.out.1 HNB.out.2.1 (HDD.out.1.trans HDU.out) (by obtain ⟨r, hr⟩ := HLU.out; exact ⟨r, HDD.out.2.trans hr⟩); have O1 := Lib.hid o1; have O4 := Lib.hid o4; have hc5 := o5.cell; have hf5 := o5.frozen; have y5 := o1.x5.cell; have y6 := o1.x6.cell; have g5' := o1.x5.frozen; have g6' := o1.x6.frozen; have y7 := o3.cell; obtain ⟨t0, t1, t2, t3, t4⟩ := o2.boxc; clear o1 o2 o3 o4 o5 hown5 hgrow5))
          have HWR := Lib.hid (show IntKind.i64.wrap ((E : Int) + ((pre.length : Int) + 1)) = ((E + (pre.length + 1) : Nat) : Int) from by rw [IntWalk.i64_in _ (by omega)]; omega)
          obtain ⟨W6, hW6⟩ : ∃ W6, w5.setCell ⟨B4, 0, none⟩ (.slice (some ⟨g5, 0, none⟩) (rs.length + 1) cap5) = W6 := ⟨_, rfl⟩
          rw [hW6] at O1 O4 y5 y6 g5' g6' y7 t0 t1 t2 t3 t4 ⊢
          have hLU2 : ∃ r, W6.heap[V3.heap.size + 1]? = some (.loop r) := by
            obtain ⟨r, hr⟩ := HLU.out
            exact ⟨r, O4.out.2.trans (HDD.out.2.trans hr)⟩
          obtain ⟨p1, p2⟩ := out_step3 (E' := E + (pre.length + 1)) (L' := x.s) (D0 := V3.heap.size) O1.out HNB.out.2.2.1 HNB.out.2.2.2.1 hxs 0 (O4.out.1.trans (HDD.out.1.trans HDU.out)) hLU2
          have HEND : ∀ Z : World, (∀ k : Nat, Z.heap[k]? = (((W6.drewN 0).setCell ⟨B5, 0, none⟩ (.int .i64 ((E + (pre.length + 1) : Nat) : Int))).setCell ⟨B6, 0, none⟩ (.int .u32 (x.s : Nat))).heap[k]?) → Z.os = W6.os → Z.tape = W6.tape → Z.output = W6.output → Z.heap.size = (((W6.drewN 0).setCell ⟨B5, 0, none⟩ (.int .i64 ((E + (pre.length + 1) : Nat) : Int))).setCell ⟨B6, 0, none⟩ (.int .u32 (x.s : Nat))).heap.size → (Z.heap[V3.heap.size]? = W.heap[V3.heap.size]? ∧ Z.heap[V3.heap.size + 1]? = W.heap[V3.heap.size + 1]?) ∧
              (∃ E' L' rs' v4', OutS w gq B1 B2 B3 B4 B5 B6 Z E' L' rs' v4' ds ∧ Hist (rdS S) Q E' L' rs' ∧ E < E') := fun Z h1 h2 h3 h4 h5 =>
            ⟨⟨(h1 _).trans (p2.1.trans (O4.out.1.trans (HDD.out.1.trans (HUW.out _)))), (h1 _).trans (p2.2.trans (O4.out.2.trans (HDD.out.2.trans (HUW.out _))))⟩, E + (pre.length + 1), x.s, _, _, p1.fl (fun k o hk _ => (h1 k).trans hk) ⟨h2.trans p1.bel.os, h3.trans p1.bel.tape, h4.trans p1.bel.output, by rw [h5]; exact p1.bel.size, fun k hk => (h1 k).trans (p1.bel.block k hk)⟩, M1.out.hist HJ.out ⟨hE1, hE2, hrl, hH3⟩, by omega⟩
          clear p1 p2 hLU2 hW6
          have HEND := Lib.hid HEND
          refine region_round (by kernel_rfl) (by kernel_rfl) ?_
          refine wpAnyIn_take (i := 4) (v := ?_) rfl rfl (by kernel_rfl) (by kernel_rfl) (by kernel_rfl) (fun _ _ _ h => h) ⟨Or.inl ⟨by rfl, ?_⟩, fun _ => rfl⟩ ?_
          rotate_left
          · intro w; go_simp <;> (try with_reducible rfl)
          (try simp only [Act.put, List.setIfInBounds_toArray, List.set_cons_zero, List.set_cons_succ, List.getElem_toArray, List.getElem_cons_succ, List.getElem_cons_zero])
          refine wpAnyIn_ready (rs := [0, 1, 5]) (by kernel_rfl) (by simp) ?_
          refine AllReadyIn.cons rfl (fun K hK => ?_) ?_
          · go_simp
            refine hK _ _ ?_
            clear hK K
            refine wpAnyIn_ready (rs := [1, 5]) (by kernel_rfl) (by simp) ?_
            refine AllReadyIn.cons rfl (fun K hK => ?_) ?_
            · go_simp
              refine hK _ _ ?_
              clear hK K
              refine wpAnyIn_take (i := 2) (v := ?_) rfl rfl (by kernel_rfl) (by kernel_rfl) (by kernel_rfl) (fun _ _ _ h => h) ⟨Or.inl ⟨by rfl, ?_⟩, fun _ => rfl⟩ ?_
              rotate_left
              · intro w; go_simp <;> (try with_reducible rfl)
              (try simp only [Act.put, List.setIfInBounds_toArray, List.set_cons_zero, List.set_cons_succ, List.getElem_toArray, List.getElem_cons_succ, List.getElem_cons_zero])
              refine wpAnyIn_take (i := 3) (v := ?_) rfl rfl (by kernel_rfl) (by kernel_rfl) (by kernel_rfl) (fun _ _ _ h => h) ⟨Or.inl ⟨by rfl, ?_⟩, fun _ => rfl⟩ ?_
              rotate_left
              · intro w; go_simp <;> (try with_reducible rfl)
              (try simp only [Act.put, List.setIfInBounds_toArray, List.set_cons_zero, List.set_cons_succ, List.getElem_toArray, List.getElem_cons_succ, List.getElem_cons_zero])
              refine wpAnyIn_ready (rs := [5, 6]) (by kernel_rfl) (by simp) ?_
              refine AllReadyIn.cons rfl (fun K hK => ?_) ?_
              · go_simp
                refine hK _ _ ?_
                clear hK K
                refine wpAnyIn_ready (rs := [6]) (by kernel_rfl) (by simp) ?_
                refine AllReadyIn.cons rfl (fun K hK => ?_) ?_
                · go_simp
                  refine hK _ _ ?_
                  clear hK K
                  refine wpAnyIn_ready (rs := [7]) (by kernel_rfl) (by simp) ?_
                  refine AllReadyIn.cons rfl (fun K hK => ?_) ?_
                  · go_simp
                    refine hK _ _ ?_
                    clear hK K
                    refine wpAnyIn_done (by kernel_rfl) ?_ _
                    gi_wp2
                    rw [HWR.out]
                    have hz := HEND.out (((W6.setCell ⟨B5, 0, none⟩ (.int .i64 ((E + (pre.length + 1) : Nat) : Int))).setCell ⟨B6, 0, none⟩ (.int .u32 (x.s : Nat))).drew) (fun _ => rfl) rfl rfl rfl rfl
                    exact ⟨hz.1, .inr ⟨rfl, hz.2⟩⟩
                  exact AllReadyIn.nil
                exact AllReadyIn.nil
              refine AllReadyIn.cons rfl (fun K hK => ?_) ?_
              · go_simp
                refine hK _ _ ?_
                clear hK K
                refine wpAnyIn_ready (rs := [5]) (by kernel_rfl) (by simp) ?_
                refine AllReadyIn.cons rfl (fun K hK => ?_) ?_
                · go_simp
                  refine hK _ _ ?_
                  clear hK K
                  refine wpAnyIn_ready (rs := [7]) (by kernel_rfl) (by simp) ?_
                  refine AllReadyIn.cons rfl (fun K hK => ?_) ?_
                  · go_simp
                    refine hK _ _ ?_
                    clear hK K
                    refine wpAnyIn_done (by kernel_rfl) ?_ _
                    gi_wp2
                    rw [HWR.out]
                    have hz := HEND.out (((W6.setCell ⟨B5, 0, none⟩ (.int .i64 ((E + (pre.length + 1) : Nat) : Int))).setCell ⟨B6, 0, none⟩ (.int .u32 (x.s : Nat))).drew) (fun _ => rfl) rfl rfl rfl rfl
                    exact ⟨hz.1, .inr ⟨rfl, hz.2⟩⟩
                  exact AllReadyIn.nil
                exact AllReadyIn.nil
              exact AllReadyIn.nil
            refine AllReadyIn.cons rfl (fun K hK => ?_) ?_
            · go_simp
              refine hK _ _ ?_
              clear hK K
              refine wpAnyIn_ready (rs := [1]) (by kernel_rfl) (by simp) ?_
              refine AllReadyIn.cons rfl (fun K hK => ?_) ?_
              · go_simp
                refine hK _ _ ?_
                clear hK K
                refine wpAnyIn_take (i := 2) (v := ?_) rfl rfl (by kernel_rfl) (by kernel_rfl) (by kernel_rfl) (fun _ _ _ h => h) ⟨Or.inl ⟨by rfl, ?_⟩, fun _ => rfl⟩ ?_
                rotate_left
                · intro w; go_simp <;> (try with_reducible rfl)
                (try simp only [Act.put, List.setIfInBounds_toArray, List.set_cons_zero, List.set_cons_succ, List.getElem_toArray, List.getElem_cons_succ, List.getElem_cons_zero])
                refine wpAnyIn_take (i := 3) (v := ?_) rfl rfl (by kernel_rfl) (by kernel_rfl) (by kernel_rfl) (fun _ _ _ h => h) ⟨Or.inl ⟨by rfl, ?_⟩, fun _ => rfl⟩ ?_
                rotate_left
                · intro w; go_simp <;> (try with_reducible rfl)
                (try simp only [Act.put, List.setIfInBounds_toArray, List.set_cons_zero, List.set_cons_succ, List.getElem_toArray, List.getElem_cons_succ, List.getElem_cons_zero])
                refine wpAnyIn_ready (rs := [6]) (by kernel_rfl) (by simp) ?_
                refine AllReadyIn.cons rfl (fun K hK => ?_) ?_
                · go_simp
                  refine hK _ _ ?_
                  clear hK K
                  refine wpAnyIn_ready (rs := [7]) (by kernel_rfl) (by simp) ?_
                  refine AllReadyIn.cons rfl (fun K hK => ?_) ?_
                  · go_simp
                    refine hK _ _ ?_
                    clear hK K
                    refine wpAnyIn_done (by kernel_rfl) ?_ _
                    gi_wp2
                    rw [HWR.out]
                    have hz := HEND.out (((W6.setCell ⟨B5, 0, none⟩ (.int .i64 ((E + (pre.length + 1) : Nat) : Int))).setCell ⟨B6, 0, none⟩ (.int .u32 (x.s : Nat))).drew) (fun _ => rfl) rfl rfl rfl rfl
                    exact ⟨hz.1, .inr ⟨rfl, hz.2⟩⟩
                  exact AllReadyIn.nil
                exact AllReadyIn.nil
              exact AllReadyIn.nil
            exact AllReadyIn.nil
          refine AllReadyIn.cons rfl (fun K hK => ?_) ?_
          · go_simp
            refine hK _ _ ?_
            clear hK K
            refine wpAnyIn_take (i := 2) (v := ?_) rfl rfl (by kernel_rfl) (by kernel_rfl) (by kernel_rfl) (fun _ _ _ h => h) ⟨Or.inl ⟨by rfl, ?_⟩, fun _ => rfl⟩ ?_
            rotate_left
            · intro w; go_simp <;> (try with_reducible rfl)
            (try simp only [Act.put, List.setIfInBounds_toArray, List.set_cons_zero, List.set_cons_succ, List.getElem_toArray, List.getElem_cons_succ, List.getElem_cons_zero])
            refine wpAnyIn_ready (rs := [0, 5]) (by kernel_rfl) (by simp) ?_
            refine AllReadyIn.cons rfl (fun K hK => ?_) ?_
            · go_simp
              refine hK _ _ ?_
              clear hK K
              refine wpAnyIn_take (i := 3) (v := ?_) rfl rfl (by kernel_rfl) (by kernel_rfl) (by kernel_rfl) (fun _ _ _ h => h) ⟨Or.inl ⟨by rfl, ?_⟩, fun _ => rfl⟩ ?_
              rotate_left
              · intro w; go_simp <;> (try with_reducible rfl)
              (try simp only [Act.put, List.setIfInBounds_toArray, List.set_cons_zero, List.set_cons_succ, List.getElem_toArray, List.getElem_cons_succ, List.getElem_cons_zero])
              refine wpAnyIn_ready (rs := [5, 6]) (by kernel_rfl) (by simp) ?_
              refine AllReadyIn.cons rfl (fun K hK => ?_) ?_
              · go_simp
                refine hK _ _ ?_
                clear hK K
                refine wpAnyIn_ready (rs := [6]) (by kernel_rfl) (by simp) ?_
                refine AllReadyIn.cons rfl (fun K hK => ?_) ?_
                · go_simp
                  refine hK _ _ ?_
                  clear hK K
                  refine wpAnyIn_ready (rs := [7]) (by kernel_rfl) (by simp) ?_
                  refine AllReadyIn.cons rfl (fun K hK => ?_) ?_
                  · go_simp
                    refine hK _ _ ?_
                    clear hK K
                    refine wpAnyIn_done (by kernel_rfl) ?_ _
                    gi_wp2
                    rw [HWR.out]
                    have hz := HEND.out (((W6.setCell ⟨B5, 0, none⟩ (.int .i64 ((E + (pre.length + 1) : Nat) : Int))).setCell ⟨B6, 0, none⟩ (.int .u32 (x.s : Nat))).drew) (fun _ => rfl) rfl rfl rfl rfl
                    exact ⟨hz.1, .inr ⟨rfl, hz.2⟩⟩
                  exact AllReadyIn.nil
                exact AllReadyIn.nil
              refine AllReadyIn.cons rfl (fun K hK => ?_) ?_
              · go_simp
                refine hK _ _ ?_
                clear hK K
                refine wpAnyIn_ready (rs := [5]) (by kernel_rfl) (by simp) ?_
                refine AllReadyIn.cons rfl (fun K hK => ?_) ?_
                · go_simp
                  refine hK _ _ ?_
                  clear hK K
                  refine wpAnyIn_ready (rs := [7]) (by kernel_rfl) (by simp) ?_
                  refine AllReadyIn.cons rfl (fun K hK => ?_) ?_
                  · go_simp
                    refine hK _ _ ?_
                    clear hK K
                    refine wpAnyIn_done (by kernel_rfl) ?_ _
                    gi_wp2
                    rw [HWR.out]
                    have hz := HEND.out (((W6.setCell ⟨B5, 0, none⟩ (.int .i64 ((E + (pre.length + 1) : Nat) : Int))).setCell ⟨B6, 0, none⟩ (.int .u32 (x.s : Nat))).drew) (fun _ => rfl) rfl rfl rfl rfl
                    exact ⟨hz.1, .inr ⟨rfl, hz.2⟩⟩
                  exact AllReadyIn.nil
                exact AllReadyIn.nil
              exact AllReadyIn.nil
            refine AllReadyIn.cons rfl (fun K hK => ?_) ?_
            · go_simp
              refine hK _ _ ?_
              clear hK K
              refine wpAnyIn_ready (rs := [0]) (by kernel_rfl) (by simp) ?_
              refine AllReadyIn.cons rfl (fun K hK => ?_) ?_
              · go_simp
                refine hK _ _ ?_
                clear hK K
                refine wpAnyIn_take (i := 3) (v := ?_) rfl rfl (by kernel_rfl) (by kernel_rfl) (by kernel_rfl) (fun _ _ _ h => h) ⟨Or.inl ⟨by rfl, ?_⟩, fun _ => rfl⟩ ?_
                rotate_left
                · intro w; go_simp <;> (try with_reducible rfl)
                (try simp only [Act.put, List.setIfInBounds_toArray, List.set_cons_zero, List.set_cons_succ, List.getElem_toArray, List.getElem_cons_succ, List.getElem_cons_zero])
                refine wpAnyIn_ready (rs := [6]) (by kernel_rfl) (by simp) ?_
                refine AllReadyIn.cons rfl (fun K hK => ?_) ?_
                · go_simp
                  refine hK _ _ ?_
                  clear hK K
                  refine wpAnyIn_ready (rs := [7]) (by kernel_rfl) (by simp) ?_
                  refine AllReadyIn.cons rfl (fun K hK => ?_) ?_
                  · go_simp
                    refine hK _ _ ?_
                    clear hK K
                    refine wpAnyIn_done (by kernel_rfl) ?_ _
                    gi_wp2
                    rw [HWR.out]
                    have hz := HEND.out (((W6.setCell ⟨B5, 0, none⟩ (.int .i64 ((E + (pre.length + 1) : Nat) : Int))).setCell ⟨B6, 0, none⟩ (.int .u32 (x.s : Nat))).drew) (fun _ => rfl) rfl rfl rfl rfl
                    exact ⟨hz.1, .inr ⟨rfl, hz.2⟩⟩
                  exact AllReadyIn.nil
                exact AllReadyIn.nil
              exact AllReadyIn.nil
            exact AllReadyIn.nil
          refine AllReadyIn.cons rfl (fun K hK => ?_) ?_
          · go_simp
            refine hK _ _ ?_
            clear hK K
            refine wpAnyIn_ready (rs := [0, 1]) (by kernel_rfl) (by simp) ?_
            refine AllReadyIn.cons rfl (fun K hK => ?_) ?_
            · go_simp
              refine hK _ _ ?_
              clear hK K
              refine wpAnyIn_ready (rs := [1]) (by kernel_rfl) (by simp) ?_
              refine AllReadyIn.cons rfl (fun K hK => ?_) ?_
              · go_simp
                refine hK _ _ ?_
                clear hK K
                refine wpAnyIn_take (i := 2) (v := ?_) rfl rfl (by kernel_rfl) (by kernel_rfl) (by kernel_rfl) (fun _ _ _ h => h) ⟨Or.inl ⟨by rfl, ?_⟩, fun _ => rfl⟩ ?_
                rotate_left
                · intro w; go_simp <;> (try with_reducible rfl)
                (try simp only [Act.put, List.setIfInBounds_toArray, List.set_cons_zero, List.set_cons_succ, List.getElem_toArray, List.getElem_cons_succ, List.getElem_cons_zero])
                refine wpAnyIn_take (i := 3) (v := ?_) rfl rfl (by kernel_rfl) (by kernel_rfl) (by kernel_rfl) (fun _ _ _ h => h) ⟨Or.inl ⟨by rfl, ?_⟩, fun _ => rfl⟩ ?_
                rotate_left
                · intro w; go_simp <;> (try with_reducible rfl)
                (try simp only [Act.put, List.setIfInBounds_toArray, List.set_cons_zero, List.set_cons_succ, List.getElem_toArray, List.getElem_cons_succ, List.getElem_cons_zero])
                refine wpAnyIn_ready (rs := [6]) (by kernel_rfl) (by simp) ?_
                refine AllReadyIn.cons rfl (fun K hK => ?_) ?_
                · go_simp
                  refine hK _ _ ?_
                  clear hK K
                  refine wpAnyIn_ready (rs := [7]) (by kernel_rfl) (by simp) ?_
                  refine AllReadyIn.cons rfl (fun K hK => ?_) ?_
                  · go_simp
                    refine hK _ _ ?_
                    clear hK K
                    refine wpAnyIn_done (by kernel_rfl) ?_ _
                    gi_wp2
                    rw [HWR.out]
                    have hz := HEND.out (((W6.setCell ⟨B5, 0, none⟩ (.int .i64 ((E + (pre.length + 1) : Nat) : Int))).setCell ⟨B6, 0, none⟩ (.int .u32 (x.s : Nat))).drew) (fun _ => rfl) rfl rfl rfl rfl
                    exact ⟨hz.1, .inr ⟨rfl, hz.2⟩⟩
                  exact AllReadyIn.nil
                exact AllReadyIn.nil
              exact AllReadyIn.nil
            refine AllReadyIn.cons rfl (fun K hK => ?_) ?_
            · go_simp
              refine hK _ _ ?_
              clear hK K
              refine wpAnyIn_take (i := 2) (v := ?_) rfl rfl (by kernel_rfl) (by kernel_rfl) (by kernel_rfl) (fun _ _ _ h => h) ⟨Or.inl ⟨by rfl, ?_⟩, fun _ => rfl⟩ ?_
              rotate_left
              · intro w; go_simp <;> (try with_reducible rfl)
              (try simp only [Act.put, List.setIfInBounds_toArray, List.set_cons_zero, List.set_cons_succ, List.getElem_toArray, List.getElem_cons_succ, List.getElem_cons_zero])
              refine wpAnyIn_ready (rs := [0]) (by kernel_rfl) (by simp) ?_
              refine AllReadyIn.cons rfl (fun K hK => ?_) ?_
              · go_simp
                refine hK _ _ ?_
                clear hK K
                refine wpAnyIn_take (i := 3) (v := ?_) rfl rfl (by kernel_rfl) (by kernel_rfl) (by kernel_rfl) (fun _ _ _ h => h) ⟨Or.inl ⟨by rfl, ?_⟩, fun _ => rfl⟩ ?_
                rotate_left
                · intro w; go_simp <;> (try with_reducible rfl)
                (try simp only [Act.put, List.setIfInBounds_toArray, List.set_cons_zero, List.set_cons_succ, List.getElem_toArray, List.getElem_cons_succ, List.getElem_cons_zero])
                refine wpAnyIn_ready (rs := [6]) (by kernel_rfl) (by simp) ?_
                refine AllReadyIn.cons rfl (fun K hK => ?_) ?_
                · go_simp
                  refine hK _ _ ?_
                  clear hK K
                  refine wpAnyIn_ready (rs := [7]) (by kernel_rfl) (by simp) ?_
                  refine AllReadyIn.cons rfl (fun K hK => ?_) ?_
                  · go_simp
                    refine hK _ _ ?_
                    clear hK K
                    refine wpAnyIn_done (by kernel_rfl) ?_ _
                    gi_wp2
                    rw [HWR.out]
                    have hz := HEND.out (((W6.setCell ⟨B5, 0, none⟩ (.int .i64 ((E + (pre.length + 1) : Nat) : Int))).setCell ⟨B6, 0, none⟩ (.int .u32 (x.s : Nat))).drew) (fun _ => rfl) rfl rfl rfl rfl
                    exact ⟨hz.1, .inr ⟨rfl, hz.2⟩⟩
                  exact AllReadyIn.nil
                exact AllReadyIn.nil
              exact AllReadyIn.nil
            exact AllReadyIn.nil
          exact AllReadyIn.nil
        · have HJ := Lib.hid hj
          clear hj
          gi_wp2_with (first
            | (gi_at_builtin; refine wpListIn_append_own _ rfl _ _ 114 rfl w.heap.size 106 i0 (cellV 0 0 0 0 none 0 0) 5 48 Try.underlying114 hi hz0 hz1 hz2 rfl (by decide) _ _ _ rfl (World.ownsRow.alloc HIU.out.own _) ⟨U.heap.size, 0, none⟩ 1 1 (cellL x) rfl rfl (new_get _ _ _) (cellL_one _) (by simp only [maxLen]; omega) (by omega) (by simp; omega) ?_; intro v' w1 hown' hgrow _; obtain ⟨g', cap', rfl⟩ := ownsRow_succ hown'; obtain ⟨m1, m2, m3, m4⟩ := ins_step1 HIU.out ⟨HGU.out, HG.out.2⟩ hlt8 HXU.out HNE.out HGA.out HSL.out hown' hgrow HNB.out.2.2.2.2 HDU.out HLU.out; have M1 := Lib.hid m1; have M2 := Lib.hid m2; have M3 := Lib.hid m3; have hc1 := m4.cell; have hf1 := m4.frozen; have hc2 := m1.x7.cell; clear m1 m2 m3 m4 hown' hgrow)
            | (refine ⟨trivial, ?_⟩; gi_at_call 71; refine (CallsIn.inRound _ (callsIn_wide.2 (join_by (InM.cells' HEL.out M1.out) (by omega)))).mono ?_; rintro e w4 ⟨hp, hb4⟩; obtain rfl := (hp.resolve_left (fun h => HJ.out h.1)).2; have M4 := Lib.hid (M1.out.fl (fl_below hb4) (M1.out.out.bel.trans (hb4.mono M1.out.out.bel.size))); have hdd := hb4.block V3.heap.size (by have := (Array.getElem?_eq_some_iff.1 (M3.out.1.trans HDU.out)).1; exact this); have hll := hb4.block (V3.heap.size + 1) (by obtain ⟨r, hr⟩ := HLU.out; have := (Array.getElem?_eq_some_iff.1 (M3.out.2.trans hr)).1; exact this); have HDD := Lib.hid (show _ ∧ _ from ⟨hdd.trans M3.out.1, hll.trans M3.out.2⟩); clear hc1 hf1 hc2 hp hb4 hdd hll z7 e0 e1 e2 e3 e4))
          exact ⟨⟨HDD.out.1.trans (HUW.out _), HDD.out.2.trans (HUW.out _)⟩, trivial, _, M4.out.ins (M4.out.none_ HJ.out HI.out.non)⟩
    · have HNO : Hid (∀ q, ¬ recP (rdS S) Q.behind Q.gen E L q) := rec_alien HI.out.non (.inl (by rw [← HG.out.2.2.1]; exact hga))
      have q1 : ((x.g : Int) != (Q.gen : Int)) = true := by rw [bne_iff_ne]; omega
      have q3 : ¬ (x.g : Int) = (Q.gen : Int) := by omega
      gi_wp2
      refine region_quiet_round (by kernel_rfl) (by kernel_rfl) (by kernel_rfl) ?_
      repeat (gi_big_quiet_step (fail))
      refine wpQuietIn_nil ?_
      rintro _ ⟨nq, rfl⟩
      gi_wp2
      refine region_round (by kernel_rfl) (by kernel_rfl) ?_
      refine wpAnyIn_ready (rs := [0, 1]) (by kernel_rfl) (by simp) ?_
      refine AllReadyIn.cons rfl (fun K hK => ?_) ?_
      · go_simp
        refine hK _ _ ?_
        clear hK K
        refine wpAnyIn_ready (rs := [1, 2]) (by kernel_rfl) (by simp) ?_
        refine AllReadyIn.cons rfl (fun K hK => ?_) ?_
        · go_simp
          refine hK _ _ ?_
          clear hK K
          refine wpAnyIn_ready (rs := [2]) (by kernel_rfl) (by simp) ?_
          refine AllReadyIn.cons rfl (fun K hK => ?_) ?_
          · go_simp
            refine hK _ _ ?_
            clear hK K
            refine wpAnyIn_ready (rs := [3]) (by kernel_rfl) (by simp) ?_
            refine AllReadyIn.cons rfl (fun K hK => ?_) ?_
            · go_simp
              refine hK _ _ ?_
              clear hK K
              refine wpAnyIn_done (by kernel_rfl) ?_ _
              gi_wp2
              have hAF := alien_fin HI.out HNS.out ⟨hE1, hE2, hrl, hH3⟩ HNO.out HDF.out HLP.out (nq + 1)
              exact ⟨hAF.1, .inl ⟨rfl, hAF.2⟩⟩
            exact AllReadyIn.nil
          exact AllReadyIn.nil
        refine AllReadyIn.cons rfl (fun K hK => ?_) ?_
        · go_simp
          refine hK _ _ ?_
          clear hK K
          refine wpAnyIn_ready (rs := [1]) (by kernel_rfl) (by simp) ?_
          refine AllReadyIn.cons rfl (fun K hK => ?_) ?_
          · go_simp
            refine hK _ _ ?_
            clear hK K
            refine wpAnyIn_ready (rs := [3]) (by kernel_rfl) (by simp) ?_
            refine AllReadyIn.cons rfl (fun K hK => ?_) ?_
            · go_simp
              refine hK _ _ ?_
              clear hK K
              refine wpAnyIn_done (by kernel_rfl) ?_ _
              gi_wp2
              have hAF := alien_fin HI.out HNS.out ⟨hE1, hE2, hrl, hH3⟩ HNO.out HDF.out HLP.out (nq + 1)
              exact ⟨hAF.1, .inl ⟨rfl, hAF.2⟩⟩
            exact AllReadyIn.nil
          exact AllReadyIn.nil
        exact AllReadyIn.nil
      refine AllReadyIn.cons rfl (fun K hK => ?_) ?_
      · go_simp
        refine hK _ _ ?_
        clear hK K
        refine wpAnyIn_ready (rs := [0]) (by kernel_rfl) (by simp) ?_
        refine AllReadyIn.cons rfl (fun K hK => ?_) ?_
        · go_simp
          refine hK _ _ ?_
          clear hK K
          refine wpAnyIn_ready (rs := [2]) (by kernel_rfl) (by simp) ?_
          refine AllReadyIn.cons rfl (fun K hK => ?_) ?_
          · go_simp
            refine hK _ _ ?_
            clear hK K
            refine wpAnyIn_ready (rs := [3]) (by kernel_rfl) (by simp) ?_
            refine AllReadyIn.cons rfl (fun K hK => ?_) ?_
            · go_simp
              refine hK _ _ ?_
              clear hK K
              refine wpAnyIn_done (by kernel_rfl) ?_ _
              gi_wp2
              have hAF := alien_fin HI.out HNS.out ⟨hE1, hE2, hrl, hH3⟩ HNO.out HDF.out HLP.out (nq + 1)
              exact ⟨hAF.1, .inl ⟨rfl, hAF.2⟩⟩
            exact AllReadyIn.nil
          exact AllReadyIn.nil
        exact AllReadyIn.nil
      exact AllReadyIn.nil
  case done =>
    rintro pre W hS ⟨v7, h⟩ hD
    have hno : ∀ q, ¬ recP (rdS S) Q.behind Q.gen E L q := rec_none h.non (hS.2.imp (fun e => by omega) id)
    have hscn := hH3 [] E L (.stop hno)
    rw [List.append_nil] at hscn
    have HS := Lib.hid hscn
    have z2 := h.out.x2.cell
    have z3 := h.out.x3.cell
    have z4 := h.out.x4.cell
    have z5 := h.out.x5.cell
    have f2 := h.out.x2.frozen
    have f3 := h.out.x3.frozen
    have HH := Lib.hid h
    have HDD := Lib.hid hD
    obtain ⟨A4, c4, rfl⟩ := h.out.recs.form
    clear hno hscn h hD hS
    gi_wp2
    gi_region
    gi_wp2
    exact fin_leave (ds := V3.heap.size :: ds) rfl rfl rfl (fin_set HH.out.out HNS.out ⟨L, HS.out⟩ fun D hD => (List.mem_cons.1 hD).elim (fun e => by rw [e]; exact HDD.out) (HH.out.out.dfs D)) HND.out HGE.out
  case stop =>
    rintro c pre W _ (⟨rfl, rs', en, h⟩ | ⟨rfl, E', L', rs', v4', h, hh, hlt⟩) hD
    · have HH := Lib.hid h
      have HDD := Lib.hid hD
      clear h hD
      gi_wp2
      exact fin_leave (ds := V3.heap.size :: ds) rfl rfl rfl ⟨HH.out.bel, HH.out.x2, HH.out.x3, fun D hD => (List.mem_cons.1 hD).elim (fun e => by rw [e]; exact HDD.out) (HH.out.dfs D), HH.out.scn⟩ HND.out HGE.out
    · have HH := Lib.hid h
      have HDD := Lib.hid hD
      have HHH := Lib.hid hh
      clear h hD hh
      gi_wp2
      have hh := HHH.out
      exact ⟨Q.behind - E', by have := hh.2.1; omega, E', L', rs', v4', V3.heap.size :: ds, _, _, _, _, _, _, _, _, _, _, _, _, _, _, _, _, _, _, _, _, _, _, _, _, _, _, _, _, _, _, _, _, _, _, _, _, _, _, _, _, _, _, _, _, _, _, rfl, { HH.out with dfs := fun D hD => (List.mem_cons.1 hD).elim (fun e => by rw [e]; exact HDD.out) (HH.out.dfs D), nd := HND.out, dge := HGE.out }, hh, rfl⟩
end Go.Proofs.Ytmcbmbcfgefocaa
