/- Contract: Add. -/
import Derived.Test.YtmcbmbcfgefocaaPNm
namespace Go.Proofs.Ytmcbmbcfgefocaa
open Go.RowKit Go.Shelf
set_option linter.unusedSimpArgs false
set_option linter.unusedVariables false

theorem dflush_any {F : Nat → Prop} {w : World} {gd : Nat} {S : DS} (h : DskAt F w gd S) : Calls Try.prog 50 #[.pointer (some ⟨gd, 0, none⟩)] w fun e w' => e = .returned (.int .i64 S.flush.2) ∧ DPost F w w' gd S.flush.1 := by
  obtain ⟨_, _, _, _, _, _, _, _, hd⟩ := id h
  unfold DS.flush
  cases hg : S.gone
  case true =>
    refine (flush_gone hd hg).mono ?_
    rintro e w' ⟨rfl, rfl⟩
    exact ⟨rfl, .stay h⟩
  case false =>
    cases hk : S.ok
    case true => exact (flush_ok hd hg hk).mono fun e w' h => h
    case false =>
      refine (flush_stop hd hg hk).mono ?_
      rintro e w' ⟨rfl, h1, h2⟩
      exact ⟨rfl, .box h1 h2⟩
/-- What Add makes of a disk and a segment, and its answer. -/
inductive AddS (S : DS) (Q : QS) (n : Nat) (R : Nat → RowD) : DS → QS → Int → Prop
  | no (h : takesC Q n R ≠ 0) : AddS S Q n R S Q (takesC Q n R)
  | gone (h : takesC Q n R = 0) (hg : S.gone = true) : AddS S Q n R S Q 4
  | none_ (h : takesC Q n R = 0) (hg : S.gone = false) (hn : n = 0) : AddS S Q n R S Q 0
  | cut (h : takesC Q n R = 0) (hg : S.gone = false) (hn : n ≠ 0) (pre : List CellD) (x : CellD) (hs : ∀ (j : Nat) (y : CellD), (pre ++ [x])[j]? = some y → Says Q n R j y) (hl : (pre ++ [x]).length ≤ sumN R n) (hc : wrC S Q.ende pre)
      (hk : ((wrS S Q.ende pre).write ((Q.ende + pre.length : Nat)) (secX x)).2 ≠ 0) : AddS S Q n R (wrS S Q.ende (pre ++ [x])) { Q with ende := Q.first, top := 4294967295 } ((wrS S Q.ende pre).write ((Q.ende + pre.length : Nat)) (secX x)).2
  | lost (h : takesC Q n R = 0) (hg : S.gone = false) (hn : n ≠ 0) (xs : List CellD) (hs : ∀ (j : Nat) (y : CellD), xs[j]? = some y → Says Q n R j y) (hl : xs.length = sumN R n) (hc : wrC S Q.ende xs)
      (hk : (wrS S Q.ende xs).flush.2 ≠ 0) : AddS S Q n R (wrS S Q.ende xs).flush.1 { Q with ende := Q.first, top := 4294967295 } (wrS S Q.ende xs).flush.2
  | kept (h : takesC Q n R = 0) (hg : S.gone = false) (hn : n ≠ 0) (xs : List CellD) (hs : ∀ (j : Nat) (y : CellD), xs[j]? = some y → Says Q n R j y) (hl : xs.length = sumN R n) (hc : wrC S Q.ende xs)
      (hk : (wrS S Q.ende xs).flush.2 = 0) : AddS S Q n R (wrS S Q.ende xs).flush.1 { Q with ende := Q.ende + sumN R n, top := Q.top + n } 0
def AddPost (F : Nat → Prop) (w w' : World) (e : Ending) (gq gd : Nat) (S : DS) (Q : QS) (n : Nat) (R : Nat → RowD) : Prop :=
  ∃ (S' : DS) (Q' : QS) (k : Int), e = .returned (.int .i64 k) ∧ AddS S Q n R S' Q' k ∧ SBox w' gq gd Q' ∧ (∃ F', DskAt F' w' gd S' ∧ ∀ k, F' k → F k ∨ w.heap.size ≤ k) ∧ Only (fun k => F k ∨ k = gq) w w'
/-- Records that are taken. -/
theorem takes_yes {Q : QS} {n : Nat} {R : Nat → RowD} (h : takesC Q n R = 0) : (∀ i, i < n → needF (R i).n ≠ 0) ∧ sumN R n ≤ Q.behind - Q.ende ∧ n ≤ 4294967295 - Q.top := by
  unfold takesC at h
  split at h
  · cases h
  · rename_i h1
    split at h
    · cases h
    · rename_i h2
      exact ⟨fun i hi e => h1 ⟨i, hi, e⟩, by omega, by omega⟩
section
variable {F : Nat → Prop} {w w' w'' : World} {gq gd : Nat} {S S' : DS} {Q Q' : QS} {n : Nat} {R : Nat → RowD}
/-- Nothing was done. -/
theorem add_stay (hd : DskAt F w gd S) (hq : SBox w gq gd Q) (hb : Below w.heap.size w w') {k : Int} (h : AddS S Q n R S Q k) : AddPost F w w' (.returned (.int .i64 k)) gq gd S Q n R :=
  ⟨S, Q, k, rfl, h, hq.below hb, ⟨F, hd.keep (fun k hk => hb.block k (hd.lt k hk)) hb.size, fun k hk => .inl hk⟩, Only.of_below hb⟩
/-- The disk was written; only then the segment's block. -/
theorem add_done (hd : DskAt F w gd S) (hgF : ¬ F gq) (hlt : gq < w.heap.size) (hb : Below w.heap.size w w') (hp : DPost F w' w'' gd S') {w3 : World} (ho : Only (· = gq) w'' w3) (hq : SBox w3 gq gd Q') {k : Int} (h : AddS S Q n R S' Q' k) : AddPost F w w3 (.returned (.int .i64 k)) gq gd S Q n R := by
  obtain ⟨F', h1, h2, h3⟩ := hp
  have hs := hb.size
  have h4 : Only (fun k => F k ∨ k = gq) w w'' := ((Only.of_below hb).trans h2).mono fun k e => .inl e
  refine ⟨S', Q', k, rfl, h, hq, ⟨F', h1.keep (fun j hj => ho.block j (h1.lt j hj) fun e => ?_) ho.size, fun j hj => (h3 j hj).imp id fun e => by omega⟩, h4.trans (ho.mono fun k e => .inr e)⟩
  rcases h3 j hj with e' | e'
  · exact hgF (e ▸ e')
  · have e : j = gq := e
    omega
end
end Go.Proofs.Ytmcbmbcfgefocaa

/- Contract: Add, the walk. -/
namespace Go.Proofs.Ytmcbmbcfgefocaa
open Go.RowKit Go.Shelf
set_option linter.unusedSimpArgs false
set_option linter.unusedVariables false

set_option maxRecDepth 100000 in
set_option maxHeartbeats 4000000 in
theorem add_any {F : Nat → Prop} {w : World} {gq gd : Nat} {S : DS} {Q : QS} {A : Option Addr} {n c : Nat} {R : Nat → RowD} (hd : DskAt F w gd S) (hq : SBox w gq gd Q) (hgF : ¬ F gq) (hR : ∀ V, Only F w V → RowsIn V A n R) (hn : n ≤ 100000) (hP : S.P.length ≤ 900000) :
    Calls Try.prog 38 #[.pointer (some ⟨gq, 0, none⟩), .slice A n c] w fun e w' => AddPost F w w' e gq gd S Q n R := by
  have hqok := hq.2
  obtain ⟨t, ht⟩ : ∃ t, takesC Q n R = t := ⟨_, rfl⟩
  have HT : Hid (Calls Try.prog 53 #[.pointer (some ⟨gq, 0, none⟩), .slice A n c] w fun e w' => e = .returned (.int .i64 t) ∧ Below w.heap.size w w') := by
    rw [← ht]
    exact takes_any hq A n c R (hR w Only.refl) hn
  have HDN : Hid (∀ u, Below w.heap.size w u → Calls Try.prog 54 #[.pointer (some ⟨gd, 0, none⟩)] u fun e w' => e = .returned (.bool S.gone) ∧ u = w') := fun u hu => ddown_any (hd.keep (fun k hk => hu.block k (hd.lt k hk)) hu.size)
  have HTE := Lib.hid ht
  have HD := Lib.hid hd
  have HQ := Lib.hid hq
  have HGF := Lib.hid hgF
  have HR := Lib.hid hR
  clear hd hq hgF hR ht
  by_cases h0 : t = 0
  · subst h0
    cases hg : S.gone with
    | true =>
      rw [hg] at HDN
      have HG := Lib.hid hg
      clear hg
      go_enter Try.func38, Try.ntmps38
      go_wp2_with (first
        | (go_at_call 53; refine HT.out.mono ?_; rintro e w2 ⟨rfl, hb2⟩; have HB2 := Lib.hid hb2; obtain ⟨d0, _, _, _, _, _⟩ := (HQ.out.below hb2).cells; clear hb2)
        | (go_at_call 54; refine (HDN.out _ HB2.out).mono ?_; rintro e w3 ⟨rfl, rfl⟩))
      go_ret
      exact add_stay HD.out HQ.out HB2.out (.gone HTE.out HG.out)
    | false =>
      rw [hg] at HDN
      have HG := Lib.hid hg
      clear hg
      by_cases hn0 : n = 0
      · have q1 : ((n : Int) == 0) = true := by rw [beq_iff_eq]; omega
        have HN0 := Lib.hid hn0
        clear hn0
        go_enter Try.func38, Try.ntmps38
        go_wp2_with (first
          | (go_at_call 53; refine HT.out.mono ?_; rintro e w2 ⟨rfl, hb2⟩; have HB2 := Lib.hid hb2; obtain ⟨d0, _, _, _, _, _⟩ := (HQ.out.below hb2).cells; clear hb2)
          | (go_at_call 54; refine (HDN.out _ HB2.out).mono ?_; rintro e w3 ⟨rfl, rfl⟩))
        go_ret
        exact add_stay HD.out HQ.out HB2.out (.none_ HTE.out HG.out HN0.out)
      · have q1 : ((n : Int) == 0) = false := by rw [beq_eq_false_iff_ne]; omega
        have HN0 := Lib.hid hn0
        obtain ⟨t1, t2, t3⟩ := takes_yes HTE.out
        have hsl := sumN_le R n
        have hq3 := hqok.2.2.1
        have hq2 := hqok.2.1
        have htop := hqok.2.2.2.2
        have HW : Hid (∀ u, Below w.heap.size w u → Calls Try.prog 55 #[.pointer (some ⟨gq, 0, none⟩), .slice A n c] u fun e w' => WritePost F u w' e gd Q S n R) := fun u hu =>
          write_any (HD.out.keep (fun k hk => hu.block k (HD.out.lt k hk)) hu.size) (HQ.out.below hu) (fun V hV => HR.out V ((Only.of_below hu).trans hV)) t1 hn (by omega) (by omega)
        have HSB : Hid (∀ u u', Below w.heap.size w u → Only F u u' → SBox u' gq gd Q) := fun u u' h1 h2 => (HQ.out.below h1).of_block (h2.block gq (HQ.out.below h1).lt HGF.out)
        have HSF : Hid (∀ u u' u'' F' S', Below w.heap.size w u → (Only F u u' ∧ ∀ k, F' k → F k ∨ u.heap.size ≤ k) → DPost F' u' u'' gd S' → SBox u'' gq gd Q) := fun u u' u'' F' S' h1 h2 h3 => by
          obtain ⟨F2, _, h4, _⟩ := h3
          have h5 := HSB.out u u' h1 h2.1
          refine h5.of_block (h4.block gq h5.lt fun e => ?_)
          rcases h2.2 gq e with e' | e'
          · exact HGF.out e'
          · have := (HQ.out.below h1).lt
            omega
        have HT2 := Lib.hid t2
        have HT3 := Lib.hid t3
        clear hn0 t1 t2 t3 hsl
        go_enter Try.func38, Try.ntmps38
        go_wp2_with (first
          | (go_at_call 53; refine HT.out.mono ?_; rintro e w2 ⟨rfl, hb2⟩; have HB2 := Lib.hid hb2; obtain ⟨d0, _, _, _, _, _⟩ := (HQ.out.below hb2).cells; clear hb2)
          | (go_at_call 54; refine (HDN.out _ HB2.out).mono ?_; rintro e w3 ⟨rfl, rfl⟩))
        go_at_call 55
        refine (HW.out _ HB2.out).mono ?_
        rintro e w3 ⟨xs, hs, hl, hfr, hdp, hcase⟩
        have HDP := Lib.hid hdp
        have HS := Lib.hid hs
        obtain ⟨F3, hd3, ho3, hk3⟩ := hdp
        have HQ3 := Lib.hid (HSB.out _ _ HB2.out ho3)
        have HO3 := Lib.hid (show Only F w2 w3 ∧ ∀ k, F3 k → F k ∨ w2.heap.size ≤ k from ⟨ho3, hk3⟩)
        have HD3 := Lib.hid hd3
        have HLT := Lib.hid (HQ.out.lt)
        clear d0 hs hfr ho3 hk3 hd3
        rcases hcase with ⟨rfl, hlen, hc⟩ | ⟨pre, x, rfl, hc, hk, rfl⟩
        · have HX := Lib.hid (show xs.length = sumN R n ∧ wrC S Q.ende xs from ⟨hlen, hc⟩)
          obtain ⟨f, hf⟩ : ∃ f, (wrS S Q.ende xs).flush = f := ⟨_, rfl⟩
          have HF := Lib.hid hf
          have HFL : Hid (Calls Try.prog 50 #[.pointer (some ⟨gd, 0, none⟩)] w3 fun e w' => e = .returned (.int .i64 f.2) ∧ DPost F3 w3 w' gd f.1) := by
            rw [← hf]
            exact dflush_any HD3.out
          have HTR : Hid (∀ w4, DPost F3 w3 w4 gd f.1 → DPost F w2 w4 gd f.1) := fun w4 h => by
            obtain ⟨G, g1, g2, g3⟩ := h
            have hs3 := HO3.out.1.size
            exact ⟨G, g1, HO3.out.1.then g2 HO3.out.2, fun j hj => (g3 j hj).elim (fun e => HO3.out.2 j e) fun e => .inr (by omega)⟩
          obtain ⟨E, hE⟩ : ∃ E, Q.ende + xs.length = E := ⟨_, rfl⟩
          obtain ⟨T, hTT⟩ : ∃ T, Q.top + n = T := ⟨_, rfl⟩
          have HE := Lib.hid (show E = Q.ende + sumN R n from by rw [← hE, hlen])
          have HTT := Lib.hid hTT
          have HB := Lib.hid (show E ≤ Q.behind ∧ T < 4294967296 from ⟨by have := HT2.out; have := HE.out; omega, by have := HT3.out; omega⟩)
          have hw1 : IntKind.u32.wrap (n : Int) = (n : Int) := IntWalk.u32_in _ (by omega)
          have hw2 : IntKind.u32.wrap ((Q.top : Int) + (n : Int)) = (T : Int) := by rw [IntWalk.u32_in _ (by have := HT3.out; omega)]; omega
          rw [hE]
          clear hlen hc hf hl hE hTT
          obtain ⟨e0, _, _, _, _, _⟩ := HQ3.out.cells
          by_cases hf0 : f.2 = 0
          · rw [hf0] at HFL
            have HF0 := Lib.hid hf0
            clear hf0
            go_wp2_with (go_at_call 50; refine HFL.out.mono ?_; rintro e w4 ⟨rfl, hp4⟩; have HP4 := Lib.hid (HTR.out _ hp4); have hq4 := HSF.out _ _ _ _ _ HB2.out HO3.out hp4; have HQ4 := Lib.hid hq4; obtain ⟨_, _, _, _, e4, e5⟩ := hq4.cells; have z4 := hq4.1.frozen 4; have z5 := hq4.1.frozen 5; clear hp4 hq4 e0)
            go_ret
            exact add_done HD.out HGF.out HLT.out HB2.out HP4.out (only_box (only_box Only.refl 4 _) 5 _) (sbox_turned HQ4.out.1 ⟨hq3, hqok.2.2.2.1⟩ (E := E) (T := T) ⟨by have := hqok.1; have := HE.out; omega, HB.out.1⟩ HB.out.2) (by rw [HE.out, ← HTT.out, ← HF.out]; exact .kept HTE.out HG.out HN0.out xs HS.out HX.out.1 HX.out.2 (by rw [HF.out]; exact HF0.out))
          · have q2 : (f.2 != 0) = true := by rw [bne_iff_ne]; exact hf0
            have HF0 := Lib.hid hf0
            go_wp2_with (first
              | (go_at_call 50; refine HFL.out.mono ?_; rintro e w4 ⟨rfl, hp4⟩; have HP4 := Lib.hid (HTR.out _ hp4); have HFG := Lib.hid (forget_any (HSF.out _ _ _ _ _ HB2.out HO3.out hp4)); clear hp4 e0)
              | (go_at_call 56; refine HFG.out.mono ?_; rintro e w5 ⟨rfl, hq5, ho5, hs5⟩; have HQ5 := Lib.hid hq5; have HO5 := Lib.hid ho5; clear hq5 ho5 hs5))
            go_ret
            exact add_done HD.out HGF.out HLT.out HB2.out HP4.out HO5.out HQ5.out (by rw [← HF.out]; exact .lost HTE.out HG.out HN0.out xs HS.out HX.out.1 HX.out.2 (by rw [HF.out]; exact HF0.out))
        · have HL := Lib.hid hl
          have HC := Lib.hid hc
          obtain ⟨k, hkk⟩ : ∃ k, ((wrS S Q.ende pre).write ((Q.ende + pre.length : Nat)) (secX x)).2 = k := ⟨_, rfl⟩
          have HKK := Lib.hid hkk
          rw [hkk] at hk ⊢
          have HK := Lib.hid hk
          have q2 : (k != 0) = true := by rw [bne_iff_ne]; exact hk
          have q3 : (k == 0) = false := by rw [beq_eq_false_iff_ne]; exact hk
          have HFG := Lib.hid (forget_any HQ3.out)
          clear hl hc hkk
          go_wp2_with (go_at_call 56; refine HFG.out.mono ?_; rintro e w5 ⟨rfl, hq5, ho5, hs5⟩; have HQ5 := Lib.hid hq5; have HO5 := Lib.hid ho5; clear hq5 ho5 hs5)
          go_ret
          exact add_done HD.out HGF.out HLT.out HB2.out HDP.out HO5.out HQ5.out (by rw [← HKK.out]; exact .cut HTE.out HG.out HN0.out pre x HS.out HL.out HC.out (by rw [HKK.out]; exact HK.out))
  · have q1 : (t != 0) = true := by rw [bne_iff_ne]; exact h0
    have H0 := Lib.hid h0
    go_enter Try.func38, Try.ntmps38
    go_wp2_with (go_at_call 53; refine HT.out.mono ?_; rintro e w2 ⟨rfl, hb2⟩; have HB2 := Lib.hid hb2; clear hb2)
    go_ret
    rw [← HTE.out]
    exact add_stay HD.out HQ.out HB2.out (.no (by rw [HTE.out]; exact H0.out))
end Go.Proofs.Ytmcbmbcfgefocaa

/- What a scan finds behind writes; by the sectors alone. -/
namespace Go.Proofs.Ytmcbmbcfgefocaa
open Go.RowKit
set_option linter.unusedSimpArgs false
set_option linter.unusedVariables false

/-- The same records, byte by byte. -/
def SameR (r r' : Rec) : Prop := r.1 = r'.1 ∧ ∀ j, j < r.1 → r.2 j = r'.2 j
def SameL : List Rec → List Rec → Prop
  | [], [] => True
  | r :: l, r' :: l' => SameR r r' ∧ SameL l l'
  | _, _ => False
theorem SameL.refl : ∀ l : List Rec, SameL l l
  | [] => trivial
  | _ :: l => ⟨⟨rfl, fun _ _ => rfl⟩, SameL.refl l⟩
theorem SameL.len : ∀ {l l' : List Rec}, SameL l l' → l.length = l'.length
  | [], [], _ => rfl
  | _ :: _, _ :: _, h => by rw [List.length_cons, List.length_cons, SameL.len h.2]
theorem SameL.app : ∀ {l l' m m' : List Rec}, SameL l l' → SameL m m' → SameL (l ++ m) (l' ++ m')
  | [], [], _, _, _, k => k
  | _ :: _, _ :: _, _, _, h, k => ⟨h.1, SameL.app h.2 k⟩
theorem SameL.trans : ∀ {l m n : List Rec}, SameL l m → SameL m n → SameL l n
  | [], [], [], _, _ => trivial
  | _ :: _, _ :: _, _ :: _, h, k => ⟨⟨h.1.1.trans k.1.1, fun j hj => (h.1.2 j hj).trans (k.1.2 j (by rw [← h.1.1]; exact hj))⟩, SameL.trans h.2 k.2⟩
theorem SameL.symm : ∀ {l m : List Rec}, SameL l m → SameL m l
  | [], [], _ => trivial
  | _ :: _, _ :: _, h => ⟨⟨h.1.1.symm, fun j hj => (h.1.2 j (by rw [h.1.1]; exact hj)).symm⟩, SameL.symm h.2⟩
section
variable {T T' : Nat → Option (Nat → Nat)} {b gen : Nat}
theorem recP.congr {i last q e : Nat} (h : recP T b gen i last q) (hq : i + q ≤ e) (ht : ∀ k, i ≤ k → k < e → T k = T' k) : recP T' b gen i last q ∧ SameR (recR T i q) (recR T' i q) := by
  have hp := h.pos
  have e1 : ∀ k, k < q → T (i + k) = T' (i + k) := fun k hk => ht _ (by omega) (by omega)
  have e0 : T i = T' i := ht i (Nat.le_refl _) (by omega)
  obtain ⟨h1, h2, h3, h4, h5⟩ := h
  have hs : ∀ k, k < q → sameX (cellX (T (i + k))) (cellX (T' (i + k))) := fun k hk => by
    rw [e1 k hk]
    exact ⟨rfl, rfl, rfl, rfl, rfl, rfl⟩
  exact ⟨⟨h1, fun k hk => by rw [← e1 k hk]; exact h2 k hk, (joinP_congr hs).1 h3, by rw [← e0]; exact h4, by rw [← e0]; exact h5⟩, join_same h3 hs⟩
/-- What lies ahead of what has turned is found as before. -/
theorem Scn.front {i last : Nat} {rs : List Rec} {e l : Nat} (h : Scn T b gen i last rs e l) (hi : i ≤ b) (ht : ∀ k, i ≤ k → k < e → T k = T' k) {rs' : List Rec} {e' l' : Nat} (k : Scn T' b gen e l rs' e' l') : ∃ rs0, SameL rs rs0 ∧ Scn T' b gen i last (rs0 ++ rs') e' l' := by
  induction h with
  | stop _ => exact ⟨[], trivial, k⟩
  | more h h2 ih =>
    have hb := h.1
    have hle := (h2.le hb).1
    have hp := h.pos
    obtain ⟨rs0, hs, hk⟩ := ih hb (fun j h1 h3 => ht j (by omega) h3) k
    obtain ⟨h4, h5⟩ := h.congr hle ht
    rw [ht _ (Nat.le_refl _) (by omega)] at hk
    exact ⟨_ :: rs0, ⟨h5, hs⟩, .more h4 hk⟩
/-- Where no cell has a number above the last, nothing begins. -/
theorem Scn.none_ {i l : Nat} (h : i < b → cellB (T i) = true → (cellX (T i)).s ≤ l) : Scn T b gen i l [] i l := .stop fun q hq => by
  have hp := hq.pos
  have h1 := hq.1
  have h2 := h (by omega) (hq.2.1 0 hp)
  have h3 := hq.2.2.2.2
  omega
end
/-- A disk's sectors behind a write that was told OK. -/
theorem rdS_write {S : DS} {i : Nat} {f : Nat → Nat} (h : (S.write (i : Nat) f).2 = 0) : i < S.n ∧ S.gone = false ∧ (S.write (i : Nat) f).1.n = S.n ∧ (S.write (i : Nat) f).1.gone = false ∧ ∀ j, rdS (S.write (i : Nat) f).1 j = if j = i then some f else rdS S j := by
  unfold DS.write at h ⊢
  cases hg : S.gone with
  | true => rw [hg] at h; cases h
  | false =>
    rw [hg] at h
    simp only [Bool.false_eq_true, if_false] at h ⊢
    cases hb : hasB S.n (i : Nat) with
    | false => rw [hb] at h; simp at h
    | true =>
      rw [hb] at h
      simp only [if_true] at h ⊢
      cases hk : S.ok with
      | false => rw [hk] at h; simp at h
      | true =>
        simp only [if_true]
        have hl : S.left ≠ 1 := by simpa [DS.ok] using hk
        have hn : S.begun.n = S.n ∧ S.begun.T = S.T ∧ S.begun.P = S.P ∧ S.begun.gone = S.gone := by
          unfold DS.begun
          split
          · exact ⟨rfl, rfl, rfl, rfl⟩
          · exact ⟨rfl, rfl, rfl, rfl⟩
        have hi : i < S.n := by have := (hasB_true hb).2; omega
        refine ⟨hi, trivial, hn.1, by show S.begun.gone = false; rw [hn.2.2.2, hg], fun j => ?_⟩
        unfold rdS DS.read
        show (if S.begun.gone then _ else if hasB S.begun.n (j : Int) then _ else _ : Option (Nat → Nat) × Int).1 = _
        rw [hn.1, hn.2.2.2, hg]
        simp only [Bool.false_eq_true, if_false, Int.toNat_natCast]
        have hseen : (S.begun.wrote i f).seen = setT S.seen i (some f) := by
          unfold DS.seen DS.wrote
          rw [hn.2.1, hn.2.2.1, layT_snoc]
        have hii : (Int.toNat (i : Int)) = i := rfl
        rw [hseen]
        unfold setT
        by_cases e : j = i
        · subst e
          rw [if_pos rfl, if_pos rfl]
          rw [hb]
          rfl
        · rw [if_neg e, if_neg e]
theorem rdS_flush {S : DS} (h : S.flush.2 = 0) : S.flush.1.n = S.n ∧ S.flush.1.gone = false ∧ ∀ j, rdS S.flush.1 j = rdS S j := by
  unfold DS.flush at h ⊢
  cases hg : S.gone with
  | true => rw [hg] at h; cases h
  | false =>
    rw [hg] at h
    simp only [Bool.false_eq_true, if_false] at h ⊢
    cases hk : S.ok with
    | false => rw [hk] at h; simp at h
    | true =>
      simp only [if_true]
      have hl : S.left ≠ 1 := by simpa [DS.ok] using hk
      have hn : S.begun.n = S.n ∧ S.begun.T = S.T ∧ S.begun.P = S.P ∧ S.begun.gone = S.gone := by
        unfold DS.begun
        split
        · exact ⟨rfl, rfl, rfl, rfl⟩
        · exact ⟨rfl, rfl, rfl, rfl⟩
      refine ⟨hn.1, by show S.begun.gone = false; rw [hn.2.2.2, hg], fun j => ?_⟩
      unfold rdS DS.read
      show (if S.begun.gone then _ else if hasB S.begun.n (j : Int) then _ else _ : Option (Nat → Nat) × Int).1 = _
      rw [hn.1, hn.2.2.2]
      have hseen : S.begun.flushed.seen = S.seen := by
        unfold DS.seen DS.flushed
        rw [hn.2.1, hn.2.2.1]
        rfl
      rw [hseen]
theorem rdS_wrS : ∀ (xs : List CellD) (S : DS) (e : Nat), S.gone = false → wrC S e xs → (wrS S e xs).n = S.n ∧ (wrS S e xs).gone = false ∧ (xs ≠ [] → e + xs.length ≤ S.n) ∧ ∀ j, rdS (wrS S e xs) j = if e ≤ j then (match xs[j - e]? with | some x => some (secX x) | none => rdS S j) else rdS S j
  | [], S, e, hg, _ => ⟨rfl, hg, fun h => absurd rfl h, fun j => by simp [wrS]⟩
  | x :: l, S, e, hg, h => by
    obtain ⟨h1, h2⟩ := h
    obtain ⟨a1, a2, a3, a4, a5⟩ := rdS_write h1
    obtain ⟨b1, b2, b3, b4⟩ := rdS_wrS l _ (e + 1) a4 h2
    refine ⟨b1.trans a3, b2, fun _ => ?_, fun j => ?_⟩
    · rw [List.length_cons]
      by_cases hl : l = []
      · subst hl
        simp only [List.length_nil]
        omega
      · have := b3 hl
        rw [a3] at this
        omega
    · show rdS (wrS _ (e + 1) l) j = _
      rw [b4 j]
      by_cases hj : e ≤ j
      · rw [if_pos hj]
        by_cases hj2 : e + 1 ≤ j
        · rw [if_pos hj2, show j - e = (j - (e + 1)) + 1 from by omega, List.getElem?_cons_succ]
          cases l[j - (e + 1)]? with
          | some y => rfl
          | none => simp only; rw [a5 j, if_neg (by omega)]
        · obtain rfl : j = e := by omega
          rw [if_neg hj2, Nat.sub_self, List.getElem?_cons_zero, a5, if_pos rfl]
      · rw [if_neg hj, if_neg (by omega), a5, if_neg (by omega)]
end Go.Proofs.Ytmcbmbcfgefocaa
