/- Contracts: Flush and Add, and blocks of which types they turn. -/
import Derived.Test.YtmcbmbcfgefocaaPNz
namespace Go.Proofs.Ytmcbmbcfgefocaa
open Go.RowKit Go.Shelf
set_option linter.unusedSimpArgs false
set_option linter.unusedVariables false

section
variable {F : Nat → Prop} {w w' : World} {gd gt gs ct cs : Nat} {vp : Value} {xs : List Value} {VT VS : Nat → Value} {S S' : DS}
theorem Dk.frw2 (h : Dk F w gd gt gs ct cs vp xs VT VS S) (ho : Only (fun k => k = gd ∨ k = gt) w w') : FrW w w' :=
  ⟨ho.os, ho.tape, ho.output, ho.size, fun k o hk _ ht => by
    refine (ho.block k (Array.getElem?_eq_some_iff.1 hk).1 ?_).trans hk
    rintro (rfl | rfl)
    · obtain ⟨c, hc, _⟩ := h.box
      rw [hc] at hk
      injection hk with hk
      exact ht _ _ _ hk.symm (.inl rfl)
    · obtain ⟨c, hc, _⟩ := h.th
      rw [hc] at hk
      injection hk with hk
      exact ht _ _ _ hk.symm (.inr (.inl rfl))⟩
set_option maxRecDepth 100000 in
set_option maxHeartbeats 2000000 in
theorem flush_okT (h : Dk F w gd gt gs ct cs vp xs VT VS S) (hg : S.gone = false) (hk : S.ok = true) :
    Calls Try.prog 50 #[.pointer (some ⟨gd, 0, none⟩)] w fun e w' => e = .returned (.int .i64 0) ∧ DPost F w w' gd S.begun.flushed ∧ FrW w w' := by
  obtain ⟨c0, c1, c2, c3, c4⟩ := dvr h.box
  rw [hg] at c3
  have HG := Lib.hid (begin_any h hg)
  have HH := Lib.hid h
  rw [hk] at HG
  clear h hg hk
  go_enter Try.func50, Try.ntmps50
  go_wp2_with (go_at_call 64; refine HG.out.mono ?_; rintro e w1 ⟨rfl, hd, ho, _⟩; have HD := Lib.hid hd; have HO := Lib.hid ho; clear hd ho)
  have hbox := HD.out.box
  have HBX := Lib.hid hbox
  obtain ⟨d0, d1, d2, d3, d4⟩ := dvr hbox
  have QM := Lib.hid (show S.begun.n = Nat.min S.begun.n S.begun.n from (Nat.min_self _).symm)
  have QS := Lib.hid (show ∀ j, j < S.begun.n → w1.drew.cell? ((⟨gs, 0, none⟩ : Addr).add j) = some (VS j) from fun j hj => by
    rw [add_mk, Nat.zero_add]; exact HD.out.se.drew.cell (by have := HD.out.ns; omega))
  have QV := Lib.hid (show ∀ j, j < S.begun.n → (VS j).oneCell' = true from fun j hj => by
    obtain ⟨a, m, c, e⟩ := (HD.out.hS j hj).form
    rw [e]; rfl)
  have QF := Lib.hid (show 0 + S.begun.n ≤ ct from by have := HD.out.nt; omega)
  clear hbox c0 c1 c2 c3 c4
  go_region_law (
    refine step_copy_rowIs rfl (.tmp 15) (.tmp 19) 33 33 rfl 35 Try.underlying33 rows_size gt 0 S.begun.n ct ⟨gs, 0, none⟩ S.begun.n cs (by simp [Act.eval]) (by simp [Act.eval]) 35 ct VT HD.out.th.drew VS S.begun.n QM.out QS.out QV.out QF.out ?_
    intro w2 hth2 hg2 hs2)
  all_goals
    have HTH := Lib.hid (hth2.setOther (a := ⟨gd, 2, none⟩) (fun e => HD.out.dt e.symm) (.slice none 0 0))
    have hb2 := HBX.out.drew.of_block (hg2.block gd HBX.out.lt (fun e => by injection e with e; exact HD.out.dt e))
    have HB2 := Lib.hid (dv_set2 hb2 (.slice none 0 0))
    obtain ⟨e0, e1, e2, e3, e4⟩ := dvr hb2
    have z2 := hb2.frozen 2
    have HO2 := Lib.hid ((((Only.refl (F := fun k => k = gd ∨ k = gt) (w := w1)).drew).grown hg2 (fun k hk => by injection hk with hk; exact .inl (.inr hk.symm))).setCell (a := ⟨gd, 2, none⟩) (.inl (.inl rfl)) (.slice none 0 0))
    clear hth2 hg2 hs2 hb2 d0 d1 d2 d3 d4
    go_wp2
    go_ret
    exact ⟨rfl, flush_fin HD.out HO.out HO2.out HTH.out rfl HB2.out, (HH.out.frw1 HO.out).trans (HD.out.frw2 HO2.out)⟩
end
theorem dflushT_any {F : Nat → Prop} {w : World} {gd : Nat} {S : DS} (h : DskAt F w gd S) : Calls Try.prog 50 #[.pointer (some ⟨gd, 0, none⟩)] w fun e w' => e = .returned (.int .i64 S.flush.2) ∧ DPost F w w' gd S.flush.1 ∧ FrW w w' := by
  obtain ⟨_, _, _, _, _, _, _, _, hd⟩ := id h
  unfold DS.flush
  cases hg : S.gone
  case true =>
    refine (flush_gone hd hg).mono ?_
    rintro e w' ⟨rfl, rfl⟩
    exact ⟨rfl, .stay h, Fr.refl⟩
  case false =>
    cases hk : S.ok
    case true => exact (flush_okT hd hg hk).mono fun e w' h => h
    case false =>
      refine (flush_stop hd hg hk).mono ?_
      rintro e w' ⟨rfl, h1, h2⟩
      exact ⟨rfl, .box h1 h2, hd.frw1 h2⟩
/-- Of what there was only blocks of a disk's types, and segments', may have turned. -/
def tyA (t : TypeId) : Prop := tyW t ∨ t = 86
abbrev FrA (w w' : World) : Prop := Fr tyA (fun _ => False) w w'
theorem Fr.a {w w' : World} (h : FrW w w') : FrA w w' := h.mono (fun _ h => .inl h) fun _ h => h
theorem FrA.of_below {w w' : World} (h : Below w.heap.size w w') : FrA w w' := Fr.of_below h
section
variable {F : Nat → Prop} {w w' w'' : World} {gq gd : Nat} {S S' : DS} {Q Q' : QS} {n : Nat} {R : Nat → RowD}
theorem SBox.fra {w3 : World} (hq : SBox w gq gd Q) (ha : FrA w w'') (ho : Only (· = gq) w'' w3) : FrA w w3 :=
  ⟨ho.os.trans ha.os, ho.tape.trans ha.tape, ho.output.trans ha.output, Nat.le_trans ha.size ho.size, fun k o hk hn ht => by
    have h1 := ha.block k o hk hn ht
    refine (ho.block k (Array.getElem?_eq_some_iff.1 h1).1 ?_).trans h1
    rintro rfl
    obtain ⟨c, hc, _⟩ := hq.1
    rw [hc] at hk
    injection hk with hk
    exact ht _ _ _ hk.symm (.inr rfl)⟩
theorem add_stayT (hd : DskAt F w gd S) (hq : SBox w gq gd Q) (hb : Below w.heap.size w w') {k : Int} (h : AddS S Q n R S Q k) : AddPost F w w' (.returned (.int .i64 k)) gq gd S Q n R ∧ FrA w w' := ⟨add_stay hd hq hb h, Fr.of_below hb⟩
theorem add_doneT (hq0 : SBox w gq gd Q) (ha : FrA w w'') (hd : DskAt F w gd S) (hgF : ¬ F gq) (hlt : gq < w.heap.size) (hb : Below w.heap.size w w') (hp : DPost F w' w'' gd S') {w3 : World} (ho : Only (· = gq) w'' w3) (hq : SBox w3 gq gd Q') {k : Int} (h : AddS S Q n R S' Q' k) : AddPost F w w3 (.returned (.int .i64 k)) gq gd S Q n R ∧ FrA w w3 :=
  ⟨add_done hd hgF hlt hb hp ho hq h, hq0.fra ha ho⟩
end
set_option maxRecDepth 100000 in
set_option maxHeartbeats 4000000 in
theorem addT_any {F : Nat → Prop} {w : World} {gq gd : Nat} {S : DS} {Q : QS} {A : Option Addr} {n c : Nat} {R : Nat → RowD} (hd : DskAt F w gd S) (hq : SBox w gq gd Q) (hgF : ¬ F gq) (hR : ∀ V, Only F w V → RowsIn V A n R) (hn : n ≤ 100000) (hP : S.P.length ≤ 900000) :
    Calls Try.prog 38 #[.pointer (some ⟨gq, 0, none⟩), .slice A n c] w fun e w' => AddPost F w w' e gq gd S Q n R ∧ FrA w w' := by
  have hqok := hq.2
  obtain ⟨t, ht⟩ : ∃ t, takesC Q n R = t := ⟨_, rfl⟩
  have HT : Hid (Calls Try.prog 53 #[.pointer (some ⟨gq, 0, none⟩), .slice A n c] w fun e w' => e = .returned (.int .i64 t) ∧ Below w.heap.size w w') := by
    rw [← ht]
    exact takes_any hq A n c R (hR w Only.refl) hn
  have HDN : Hid (∀ u, Below w.heap.size w u → Calls Try.prog 54 #[.pointer (some ⟨gd, 0, none⟩)] u fun e w' => e = .returned (.bool S.gone) ∧ u = w') := fun u hu => ddown_any (hd.keep (fun k hk => hu.block k (hd.lt k hk)) hu.size)
  have HTE := Lib.hid ht
  have HD := Lib.hid hd
  have HQ := Lib.hid hq
  have HGF := Lib.hid hgF
  have HR := Lib.hid hR
  clear hd hq hgF hR ht
  by_cases h0 : t = 0
  · subst h0
    cases hg : S.gone with
    | true =>
      rw [hg] at HDN
      have HG := Lib.hid hg
      clear hg
      go_enter Try.func38, Try.ntmps38
      go_wp2_with (first
        | (go_at_call 53; refine HT.out.mono ?_; rintro e w2 ⟨rfl, hb2⟩; have HB2 := Lib.hid hb2; obtain ⟨d0, _, _, _, _, _⟩ := (HQ.out.below hb2).cells; clear hb2)
        | (go_at_call 54; refine (HDN.out _ HB2.out).mono ?_; rintro e w3 ⟨rfl, rfl⟩))
      go_ret
      exact add_stayT HD.out HQ.out HB2.out (.gone HTE.out HG.out)
    | false =>
      rw [hg] at HDN
      have HG := Lib.hid hg
      clear hg
      by_cases hn0 : n = 0
      · have q1 : ((n : Int) == 0) = true := by rw [beq_iff_eq]; omega
        have HN0 := Lib.hid hn0
        clear hn0
        go_enter Try.func38, Try.ntmps38
        go_wp2_with (first
          | (go_at_call 53; refine HT.out.mono ?_; rintro e w2 ⟨rfl, hb2⟩; have HB2 := Lib.hid hb2; obtain ⟨d0, _, _, _, _, _⟩ := (HQ.out.below hb2).cells; clear hb2)
          | (go_at_call 54; refine (HDN.out _ HB2.out).mono ?_; rintro e w3 ⟨rfl, rfl⟩))
        go_ret
        exact add_stayT HD.out HQ.out HB2.out (.none_ HTE.out HG.out HN0.out)
      · have q1 : ((n : Int) == 0) = false := by rw [beq_eq_false_iff_ne]; omega
        have HN0 := Lib.hid hn0
        obtain ⟨t1, t2, t3⟩ := takes_yes HTE.out
        have hsl := sumN_le R n
        have hq3 := hqok.2.2.1
        have hq2 := hqok.2.1
        have htop := hqok.2.2.2.2
        have HW : Hid (∀ u, Below w.heap.size w u → Calls Try.prog 55 #[.pointer (some ⟨gq, 0, none⟩), .slice A n c] u fun e w' => WritePost F u w' e gd Q S n R) := fun u hu =>
          write_any (HD.out.keep (fun k hk => hu.block k (HD.out.lt k hk)) hu.size) (HQ.out.below hu) (fun V hV => HR.out V ((Only.of_below hu).trans hV)) t1 hn (by omega) (by omega)
        have HSB : Hid (∀ u u', Below w.heap.size w u → Only F u u' → SBox u' gq gd Q) := fun u u' h1 h2 => (HQ.out.below h1).of_block (h2.block gq (HQ.out.below h1).lt HGF.out)
        have HSF : Hid (∀ u u' u'' F' S', Below w.heap.size w u → (Only F u u' ∧ ∀ k, F' k → F k ∨ u.heap.size ≤ k) → DPost F' u' u'' gd S' → SBox u'' gq gd Q) := fun u u' u'' F' S' h1 h2 h3 => by
          obtain ⟨F2, _, h4, _⟩ := h3
          have h5 := HSB.out u u' h1 h2.1
          refine h5.of_block (h4.block gq h5.lt fun e => ?_)
          rcases h2.2 gq e with e' | e'
          · exact HGF.out e'
          · have := (HQ.out.below h1).lt
            omega
        have HT2 := Lib.hid t2
        have HT3 := Lib.hid t3
        clear hn0 t1 t2 t3 hsl
        go_enter Try.func38, Try.ntmps38
        go_wp2_with (first
          | (go_at_call 53; refine HT.out.mono ?_; rintro e w2 ⟨rfl, hb2⟩; have HB2 := Lib.hid hb2; obtain ⟨d0, _, _, _, _, _⟩ := (HQ.out.below hb2).cells; clear hb2)
          | (go_at_call 54; refine (HDN.out _ HB2.out).mono ?_; rintro e w3 ⟨rfl, rfl⟩))
        go_at_call 55
        refine (HW.out _ HB2.out).mono ?_
        rintro e w3 ⟨xs, hs, hl, hfr, hdp, hcase⟩
        have HFR3 := Lib.hid ((FrA.of_below HB2.out).trans hfr.a)
        have HDP := Lib.hid hdp
        have HS := Lib.hid hs
        obtain ⟨F3, hd3, ho3, hk3⟩ := hdp
        have HQ3 := Lib.hid (HSB.out _ _ HB2.out ho3)
        have HO3 := Lib.hid (show Only F w2 w3 ∧ ∀ k, F3 k → F k ∨ w2.heap.size ≤ k from ⟨ho3, hk3⟩)
        have HD3 := Lib.hid hd3
        have HLT := Lib.hid (HQ.out.lt)
        clear d0 hs hfr ho3 hk3 hd3
        rcases hcase with ⟨rfl, hlen, hc⟩ | ⟨pre, x, rfl, hc, hk, rfl⟩
        · have HX := Lib.hid (show xs.length = sumN R n ∧ wrC S Q.ende xs from ⟨hlen, hc⟩)
          obtain ⟨f, hf⟩ : ∃ f, (wrS S Q.ende xs).flush = f := ⟨_, rfl⟩
          have HF := Lib.hid hf
          have HFL : Hid (Calls Try.prog 50 #[.pointer (some ⟨gd, 0, none⟩)] w3 fun e w' => e = .returned (.int .i64 f.2) ∧ DPost F3 w3 w' gd f.1 ∧ FrW w3 w') := by
            rw [← hf]
            exact dflushT_any HD3.out
          have HTR : Hid (∀ w4, DPost F3 w3 w4 gd f.1 → DPost F w2 w4 gd f.1) := fun w4 h => by
            obtain ⟨G, g1, g2, g3⟩ := h
            have hs3 := HO3.out.1.size
            exact ⟨G, g1, HO3.out.1.then g2 HO3.out.2, fun j hj => (g3 j hj).elim (fun e => HO3.out.2 j e) fun e => .inr (by omega)⟩
          obtain ⟨E, hE⟩ : ∃ E, Q.ende + xs.length = E := ⟨_, rfl⟩
          obtain ⟨T, hTT⟩ : ∃ T, Q.top + n = T := ⟨_, rfl⟩
          have HE := Lib.hid (show E = Q.ende + sumN R n from by rw [← hE, hlen])
          have HTT := Lib.hid hTT
          have HB := Lib.hid (show E ≤ Q.behind ∧ T < 4294967296 from ⟨by have := HT2.out; have := HE.out; omega, by have := HT3.out; omega⟩)
          have hw1 : IntKind.u32.wrap (n : Int) = (n : Int) := IntWalk.u32_in _ (by omega)
          have hw2 : IntKind.u32.wrap ((Q.top : Int) + (n : Int)) = (T : Int) := by rw [IntWalk.u32_in _ (by have := HT3.out; omega)]; omega
          rw [hE]
          clear hlen hc hf hl hE hTT
          obtain ⟨e0, _, _, _, _, _⟩ := HQ3.out.cells
          by_cases hf0 : f.2 = 0
          · rw [hf0] at HFL
            have HF0 := Lib.hid hf0
            clear hf0
            go_wp2_with (go_at_call 50; refine HFL.out.mono ?_; rintro e w4 ⟨rfl, hp4, hf4⟩; have HFR4 := Lib.hid (HFR3.out.trans hf4.a); clear hf4; have HP4 := Lib.hid (HTR.out _ hp4); have hq4 := HSF.out _ _ _ _ _ HB2.out HO3.out hp4; have HQ4 := Lib.hid hq4; obtain ⟨_, _, _, _, e4, e5⟩ := hq4.cells; have z4 := hq4.1.frozen 4; have z5 := hq4.1.frozen 5; clear hp4 hq4 e0)
            go_ret
            refine add_doneT HQ.out HFR4.out HD.out HGF.out HLT.out HB2.out HP4.out (only_box (only_box Only.refl 4 _) 5 _) (sbox_turned HQ4.out.1 ⟨hq3, hqok.2.2.2.1⟩ (E := E) (T := T) ⟨by have := hqok.1; have := HE.out; omega, HB.out.1⟩ HB.out.2) (by rw [HE.out, ← HTT.out, ← HF.out]; exact .kept HTE.out HG.out HN0.out xs HS.out HX.out.1 HX.out.2 (by rw [HF.out]; exact HF0.out))
          · have q2 : (f.2 != 0) = true := by rw [bne_iff_ne]; exact hf0
            have HF0 := Lib.hid hf0
            go_wp2_with (first
              | (go_at_call 50; refine HFL.out.mono ?_; rintro e w4 ⟨rfl, hp4, hf4⟩; have HFR4 := Lib.hid (HFR3.out.trans hf4.a); clear hf4; have HP4 := Lib.hid (HTR.out _ hp4); have HFG := Lib.hid (forget_any (HSF.out _ _ _ _ _ HB2.out HO3.out hp4)); clear hp4 e0)
              | (go_at_call 56; refine HFG.out.mono ?_; rintro e w5 ⟨rfl, hq5, ho5, hs5⟩; have HQ5 := Lib.hid hq5; have HO5 := Lib.hid ho5; clear hq5 ho5 hs5))
            go_ret
            exact add_doneT HQ.out HFR4.out HD.out HGF.out HLT.out HB2.out HP4.out HO5.out HQ5.out (by rw [← HF.out]; exact .lost HTE.out HG.out HN0.out xs HS.out HX.out.1 HX.out.2 (by rw [HF.out]; exact HF0.out))
        · have HL := Lib.hid hl
          have HC := Lib.hid hc
          obtain ⟨k, hkk⟩ : ∃ k, ((wrS S Q.ende pre).write ((Q.ende + pre.length : Nat)) (secX x)).2 = k := ⟨_, rfl⟩
          have HKK := Lib.hid hkk
          rw [hkk] at hk ⊢
          have HK := Lib.hid hk
          have q2 : (k != 0) = true := by rw [bne_iff_ne]; exact hk
          have q3 : (k == 0) = false := by rw [beq_eq_false_iff_ne]; exact hk
          have HFG := Lib.hid (forget_any HQ3.out)
          clear hl hc hkk
          go_wp2_with (go_at_call 56; refine HFG.out.mono ?_; rintro e w5 ⟨rfl, hq5, ho5, hs5⟩; have HQ5 := Lib.hid hq5; have HO5 := Lib.hid ho5; clear hq5 ho5 hs5)
          go_ret
          exact add_doneT HQ.out HFR3.out HD.out HGF.out HLT.out HB2.out HDP.out HO5.out HQ5.out (by rw [← HKK.out]; exact .cut HTE.out HG.out HN0.out pre x HS.out HL.out HC.out (by rw [HKK.out]; exact HK.out))
  · have q1 : (t != 0) = true := by rw [bne_iff_ne]; exact h0
    have H0 := Lib.hid h0
    go_enter Try.func38, Try.ntmps38
    go_wp2_with (go_at_call 53; refine HT.out.mono ?_; rintro e w2 ⟨rfl, hb2⟩; have HB2 := Lib.hid hb2; clear hb2)
    go_ret
    rw [← HTE.out]
    exact add_stayT HD.out HQ.out HB2.out (.no (by rw [HTE.out]; exact H0.out))
theorem HeldG.addT {w0 w : World} {gd gq : Nat} {S : DS} {Q : QS} {G : Nat → Prop} (h : HeldG w0 w gd gq S Q G) {A : Option Addr} {n c : Nat} {R : Nat → RowD} (hR : ∀ u, Kept G w u → RowsIn u A n R) (hn : n ≤ 100000) (hP : S.P.length ≤ 900000) :
    Calls Try.prog 38 #[.pointer (some ⟨gq, 0, none⟩), .slice A n c] w fun e w' => ∃ S' Q' k, e = .returned (.int .i64 k) ∧ AddS S Q n R S' Q' k ∧ HeldG w0 w' gd gq S' Q' G ∧ Kept G w w' ∧ FrA w w' := by
  obtain ⟨F, h1, h2, h3, h4, h5, h6⟩ := h
  refine (addT_any h1 h2 h4.2.1 (fun V hV => hR V ⟨fun k hk => hV.block k (h6 k hk).2 fun e => (h5 k e).2 hk, hV.size⟩) hn hP).mono ?_
  rintro e w' ⟨⟨S', Q', k, rfl, ha, hq, ⟨F', g1, g2⟩, ho⟩, hfr⟩
  obtain ⟨x1, x2⟩ := HeldG.turn h1 h2 h3 h4 h5 h6 g1 g2 hq ho
  exact ⟨S', Q', k, rfl, ha, x1, x2, hfr⟩
end Go.Proofs.Ytmcbmbcfgefocaa

/- What the walks of SegTorn and SegKeeps carry. -/
namespace Go.Proofs.Ytmcbmbcfgefocaa
open Go.RowKit Go.Shelf
set_option linter.unusedSimpArgs false
set_option linter.unusedVariables false

section
variable {w0 w w' w'' : World} {gd gq : Nat} {S S' : DS} {Q Q' : QS} {G G' : Nat → Prop}
/-- A scan; what is new is ours. -/
theorem HeldG.scanN (h : HeldG w0 w gd gq S Q G) (hg : S.gone = false) :
    Calls Try.prog 44 #[.pointer (some ⟨gq, 0, none⟩)] w fun e w' => ∃ rs en v l, e = .returned (.tuple #[v, .int .i64 0]) ∧ Scn (rdS S) Q.behind Q.gen Q.first 0 rs en l ∧ RecsAt w' w.heap.size v rs ∧ HeldG w0 w' gd gq S { Q with ende := en, top := topOf (rdS S) Q.first (Q.behind - Q.first) } (fun k => G k ∨ (w.heap.size ≤ k ∧ k < w'.heap.size)) ∧ Kept G w w' ∧ (Only (· = gq) w w' ∧ SBox w gq gd Q) := by
  obtain ⟨F, h1, h2, h3, h4, h5, h6⟩ := h
  refine (scan_any h1 h2 hg).mono ?_
  rintro e w' ⟨rs, en, v, l, rfl, hs, hr, hq, ho⟩
  have hl := h1.lt
  have hlq := h2.lt
  have hsz := ho.size
  have h0 := h3.size
  obtain ⟨⟨F', a1, a2, a3, a4, a5, a6⟩, a7⟩ := HeldG.turn (G := G) h1 h2 h3 h4 h5 h6 (h1.keep (fun k hk => ho.block k (h1.lt k hk) fun e => h4.2.1 (e ▸ hk)) ho.size) (fun k hk => .inl hk) hq (ho.mono fun k e => .inr e)
  refine ⟨rs, en, v, l, rfl, hs, hr, ⟨F, h1.keep (fun k hk => ho.block k (h1.lt k hk) fun e => h4.2.1 (e ▸ hk)) ho.size, hq, a3, ⟨h4.1, h4.2.1, fun e => ?_⟩, fun k hk => ⟨(h5 k hk).1, fun e => ?_⟩, fun k hk => ?_⟩, a7, ho, h2⟩
  · rcases e with e | e
    · exact h4.2.2 e
    · omega
  · rcases e with e | e
    · exact (h5 k hk).2 e
    · have := hl k hk; omega
  · rcases hk with e | e
    · have := h6 k e; omega
    · omega
/-- Something is done to the disk. -/
theorem HeldG.post (h : HeldG w0 w gd gq S Q G) {f : FuncId} {args : Array Value} {E : Ending → Prop} (hp : ∀ F, DskAt F w gd S → Calls Try.prog f args w fun e w' => E e ∧ DPost F w w' gd S') :
    Calls Try.prog f args w fun e w' => E e ∧ HeldG w0 w' gd gq S' Q G ∧ Kept G w w' := by
  obtain ⟨F, h1, h2, h3, h4, h5, h6⟩ := h
  refine (hp F h1).mono ?_
  rintro e w' ⟨hE, F', g1, ho, g2⟩
  exact ⟨hE, HeldG.turn h1 h2 h3 h4 h5 h6 g1 g2 (h2.of_block (ho.block gq h2.lt h4.2.1)) (ho.mono fun k e => .inl e)⟩
theorem HeldG.dwrite (h : HeldG w0 w gd gq S Q G) (hP : S.P.length ≤ 1000000) (i : Nat) {a : Option Addr} {c : Nat} {f : Nat → Nat} (hv : Byt w (.slice a 64 c) 64 f) :
    Calls Try.prog 49 #[.pointer (some ⟨gd, 0, none⟩), .int .i64 (i : Nat), .slice a 64 c] w fun e w' => e = .returned (.int .i64 (S.write (i : Nat) f).2) ∧ HeldG w0 w' gd gq (S.write (i : Nat) f).1 Q G ∧ Kept G w w' :=
  h.post (E := fun e => e = .returned (.int .i64 (S.write (i : Nat) f).2)) fun F hF => (dwrite_any hF hP i hv).mono fun e w' hp => ⟨hp.1, hp.2.1⟩
theorem HeldG.mono (h : HeldG w0 w gd gq S Q G) (hg : ∀ k, G' k → G k) : HeldG w0 w gd gq S Q G' := h.ours (Only.refl) fun k hk => .inl (hg k hk)
end
section
variable {G G' : Nat → Prop} {w w' : World} {base : Nat} {v v' : Value} {n : Nat} {f : Nat → Nat}
end
end Go.Proofs.Ytmcbmbcfgefocaa
