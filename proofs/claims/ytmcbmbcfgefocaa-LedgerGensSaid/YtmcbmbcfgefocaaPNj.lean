/- Contracts: Scan; takes. -/
import Derived.Test.YtmcbmbcfgefocaaPNg
import Derived.Test.YtmcbmbcfgefocaaPDi
namespace Go.Proofs.Ytmcbmbcfgefocaa
open Go.RowKit
set_option linter.unusedSimpArgs false
set_option linter.unusedVariables false

def ScanPost (S : DS) (w w' : World) (e : Ending) (gq gd : Nat) (Q : QS) : Prop :=
  ∃ rs en v l, e = .returned (.tuple #[v, .int .i64 0]) ∧ Scn (rdS S) Q.behind Q.gen Q.first 0 rs en l ∧ RecsAt w' w.heap.size v rs ∧ SBox w' gq gd { Q with ende := en, top := topOf (rdS S) Q.first (Q.behind - Q.first) } ∧ Only (· = gq) w w'
section
variable {F : Nat → Prop} {w w' : World} {gq gd : Nat} {Q : QS} {S : DS}
theorem ddown_any (h : DskAt F w gd S) : Calls Try.prog 54 #[.pointer (some ⟨gd, 0, none⟩)] w fun e w' => e = .returned (.bool S.gone) ∧ w = w' := by
  obtain ⟨_, _, _, _, _, _, _, _, h⟩ := h
  exact down_any h
set_option maxRecDepth 100000 in
set_option maxHeartbeats 2000000 in
theorem scan_any (hd : DskAt F w gd S) (hq : SBox w gq gd Q) (hg : S.gone = false) : Calls Try.prog 44 #[.pointer (some ⟨gq, 0, none⟩)] w fun e w' => ScanPost S w w' e gq gd Q := by
  have HD := Lib.hid (ddown_any hd)
  rw [hg] at HD
  have HR := Lib.hid (records_any hd hq)
  have HGR : Hid (∀ u, Below w.heap.size w u → Calls Try.prog 62 #[.pointer (some ⟨gq, 0, none⟩)] u fun e w' => e = .returned (.int .u32 (topOf (rdS S) Q.first (Q.behind - Q.first) : Nat)) ∧ topOf (rdS S) Q.first (Q.behind - Q.first) < 4294967296 ∧ Below u.heap.size u w') := fun u hu => greatest_any (hd.keep (fun k hk => hu.block k (hd.lt k hk)) hu.size) (hq.below hu)
  have HQ := Lib.hid hq
  obtain ⟨c0, c1, c2, c3, c4, c5⟩ := hq.cells
  clear hd hq hg
  obtain ⟨top, htop⟩ : ∃ t, topOf (rdS S) Q.first (Q.behind - Q.first) = t := ⟨_, rfl⟩
  rw [htop] at HGR
  have HT := Lib.hid htop
  clear htop
  go_enter Try.func44, Try.ntmps44
  go_wp2_with (first
    | (go_at_call 54; refine HD.out.mono ?_; rintro e w' ⟨rfl, rfl⟩)
    | (go_at_call 61; refine HR.out.mono ?_; rintro e w2 ⟨⟨rs, en, v, rfl, hrs, hl⟩, hb2⟩; have HB2 := Lib.hid hb2; have HRS := Lib.hid hrs; have HL := Lib.hid hl; clear hb2 hrs hl)
    | (go_at_call 62; refine (HGR.out _ HB2.out).mono ?_; rintro e w3 ⟨rfl, ht, hb3⟩; have HB3 := Lib.hid (HB2.out.trans (hb3.mono HB2.out.size)); have HRS3 := Lib.hid (HRS.out.below hb3); have hq3 := HQ.out.below HB3.out; have HQ3 := Lib.hid hq3; obtain ⟨d0, d1, d2, d3, d4, d5⟩ := hq3.cells; have z4 := hq3.1.frozen 4; have z5 := hq3.1.frozen 5; clear hb3 hq3))
  go_ret2
  obtain ⟨l, hl⟩ := HL.out
  have hle := hl.le (Nat.le_trans HQ.out.2.1 HQ.out.2.2.1)
  refine ⟨rs, en, v, l, rfl, hl, ?_, by rw [HT.out]; exact HQ3.out.turned ⟨hle.1, hle.2.1⟩ ht, ((Only.of_below (F := (· = gq)) HB3.out).setCell (a := ⟨gq, 4, none⟩) (.inl rfl) _).setCell (a := ⟨gq, 5, none⟩) (.inl rfl) _⟩
  have hf0 : Fr (fun _ => False) (· = gq) w3 w3 := Fr.refl
  refine HRS3.out.fr (by exact (hf0.set rfl _).set rfl _) id id fun g hg c m => ?_
  obtain rfl : g = gq := hg
  obtain ⟨cs, hh, _⟩ := HQ3.out.1
  rw [hh]
  exact ⟨(fun e => by simp at e), (fun e => by simp at e)⟩
end
/-- A row that is handed in. -/
structure RowD where
  A : Option Addr
  n : Nat
  c : Nat
  f : Nat → Nat
def RowsIn (w : World) (A : Option Addr) (n : Nat) (R : Nat → RowD) : Prop := ∀ i, i < n → ∃ ad, A = some ad ∧ w.cell? (ad.add i) = some (.slice (R i).A (R i).n (R i).c) ∧ Byt w (.slice (R i).A (R i).n (R i).c) (R i).n (R i).f ∧ (R i).n ≤ 9223372036854775807
theorem RowsIn.below {w w' : World} {A : Option Addr} {n : Nat} {R : Nat → RowD} (h : RowsIn w A n R) (hb : Below w.heap.size w w') : RowsIn w' A n R := fun i hi => by
  obtain ⟨ad, e, h1, h2, h3⟩ := h i hi
  exact ⟨ad, e, (hb.cell (block_lt_of_cell h1)).trans h1, h2.below hb, h3⟩
/-- How many cells the first k rows are; 0 among them: one is no record. -/
def sumN (R : Nat → RowD) : Nat → Nat
  | 0 => 0
  | k + 1 => sumN R k + needF (R k).n
theorem sumN_le (R : Nat → RowD) : ∀ k, sumN R k ≤ k * 8
  | 0 => Nat.le_refl _
  | k + 1 => by
    have := sumN_le R k
    have := need_few (R k).n
    show sumN R k + needF (R k).n ≤ _
    omega
open Classical in
noncomputable def takesC (Q : QS) (n : Nat) (R : Nat → RowD) : Int := if ∃ i, i < n ∧ needF (R i).n = 0 then 1 else if Q.behind - Q.ende < sumN R n ∨ 4294967295 - Q.top < n then 3 else 0
def TakesPost (w w' : World) (e : Ending) (Q : QS) (n : Nat) (R : Nat → RowD) : Prop := e = .returned (.int .i64 (takesC Q n R)) ∧ Below w.heap.size w w'
section
variable {w w' : World} {gq gd : Nat} {Q : QS}
set_option maxRecDepth 100000 in
set_option maxHeartbeats 4000000 in
theorem takes_any (hq : SBox w gq gd Q) (A : Option Addr) (n c : Nat) (R : Nat → RowD) (hr : RowsIn w A n R) (hn : n ≤ 100000) : Calls Try.prog 53 #[.pointer (some ⟨gq, 0, none⟩), .slice A n c] w fun e w' => TakesPost w w' e Q n R := by
  have HR := Lib.hid hr
  have HQ := Lib.hid hq
  obtain ⟨q1, q2, q3, q4, q5⟩ := hq.2
  obtain ⟨c0, c1, c2, c3, c4, c5⟩ := hq.cells
  have HFR := Lib.hid (free_any hq)
  clear hr hq
  go_enter Try.func53, Try.ntmps53
  go_wp2
  go_loopw [5, 11] (fun v5 v11 wr => ∃ k : Nat, k ≤ n ∧ v11 = .int .i64 (k : Nat) ∧ v5 = .int .i64 (sumN R k : Nat) ∧ (∀ i, i < k → needF (R i).n ≠ 0) ∧ wr = w) (fun _ v11 _ => n - (intOf v11).toNat)
  case atStart => exact ⟨0, Nat.zero_le _, rfl, rfl, fun i hi => absurd hi (by omega), rfl⟩
  case round =>
    obtain ⟨k, hk, rfl, rfl, hok, rfl⟩ := hrel
    have HOK := Lib.hid hok
    have hsm := sumN_le R k
    clear hok
    by_cases hlt : k < n
    · obtain ⟨ad, rfl, h1, h2, h3⟩ := HR.out k hlt
      have HS := Lib.hid (show sumN R (k + 1) = sumN R k + needF (R k).n from rfl)
      have hnf := need_few (R k).n
      have HND : Hid (∀ u : World, Calls Try.prog 45 #[.int .i64 ((R k).n : Nat)] u fun e w' => e = .returned (.int .i64 (needF (R k).n : Nat)) ∧ u = w') := fun u => (need_any (R k).n u h3).mono fun e w' h => ⟨h.1, h.2.symm⟩
      have HN0 := Lib.hid (show needF (R k).n = needF (R k).n from rfl)
      clear h2
      by_cases hz : needF (R k).n = 0
      · have hz1 : ((needF (R k).n : Int) == 0) = true := by rw [beq_iff_eq]; omega
        have HT : Hid (takesC Q n R = 1) := if_pos ⟨k, hlt, hz⟩
        generalize needF (R k).n = nd at *
        clear hz
        go_wp2_with (go_at_call 45; refine (HND.out _).mono ?_; rintro e w' ⟨rfl, rfl⟩)
        go_ret
        exact ⟨by rw [HT.out]; rfl, Below.refl _ _⟩
      · have hz1 : ((needF (R k).n : Int) == 0) = false := by rw [beq_eq_false_iff_ne]; omega
        have HOK2 : Hid (∀ i, i < k + 1 → needF (R i).n ≠ 0) := fun i hi => by
          by_cases hik : i < k
          · exact HOK.out i hik
          · obtain rfl : i = k := by omega
            exact hz
        generalize needF (R k).n = nd at *
        clear hz
        go_wp2_with (go_at_call 45; refine (HND.out _).mono ?_; rintro e w' ⟨rfl, rfl⟩)
        go_roundw
        case rel => exact ⟨k + 1, by omega, by go_num, by rw [HS.out]; go_num, HOK2.out, by first | trivial | rfl⟩
        case measure => simp [intOf]; omega
    · obtain rfl : k = n := by omega
      have hno : ¬ ∃ i, i < k ∧ needF (R i).n = 0 := fun ⟨i, h1, h2⟩ => HOK.out i h1 h2
      by_cases h1 : Q.behind - Q.ende < sumN R k
      · have HT := Lib.hid (show takesC Q k R = 3 from by unfold takesC; rw [if_neg hno, if_pos (.inl h1)])
        have d1 : decide ((sumN R k : Int) > ((Q.behind - Q.ende : Nat) : Int)) = true := by rw [decide_eq_true_eq]; omega
        have d2 : (sumN R k : Int) > ((Q.behind - Q.ende : Nat) : Int) := by omega
        clear hno
        go_wp2_with (go_at_call 34; refine HFR.out.mono ?_; rintro e w2 ⟨rfl, hb2⟩; have HB2 := Lib.hid hb2; clear hb2)
        go_ret
        exact ⟨by rw [HT.out]; rfl, HB2.out⟩
      · have d1 : decide ((sumN R k : Int) > ((Q.behind - Q.ende : Nat) : Int)) = false := by rw [decide_eq_false_iff_not]; omega
        have d2 : ¬ (sumN R k : Int) > ((Q.behind - Q.ende : Nat) : Int) := by omega
        have hw2 : ((4294967295 : Int) - (Q.top : Int)) = ((4294967295 - Q.top : Nat) : Int) := by omega
        by_cases h2 : 4294967295 - Q.top < k
        · have HT := Lib.hid (show takesC Q k R = 3 from by unfold takesC; rw [if_neg hno, if_pos (.inr h2)])
          have d3 : decide ((k : Int) > (4294967295 : Int) - (Q.top : Int)) = true := by rw [decide_eq_true_eq]; omega
          have d4 : (k : Int) > (4294967295 : Int) - (Q.top : Int) := by omega
          clear hno
          go_wp2_with (go_at_call 34; refine HFR.out.mono ?_; rintro e w2 ⟨rfl, hb2⟩; have HB2 := Lib.hid hb2; obtain ⟨g0, g1, g2, g3, g4, g5⟩ := (HQ.out.below hb2).cells; clear hb2)
          go_ret
          exact ⟨by rw [HT.out]; rfl, HB2.out⟩
        · have HT := Lib.hid (show takesC Q k R = 0 from by unfold takesC; rw [if_neg hno, if_neg (fun h => h.elim h1 h2)])
          have d3 : decide ((k : Int) > (4294967295 : Int) - (Q.top : Int)) = false := by rw [decide_eq_false_iff_not]; omega
          have d4 : ¬ (k : Int) > (4294967295 : Int) - (Q.top : Int) := by omega
          clear hno
          go_wp2_with (go_at_call 34; refine HFR.out.mono ?_; rintro e w2 ⟨rfl, hb2⟩; have HB2 := Lib.hid hb2; obtain ⟨g0, g1, g2, g3, g4, g5⟩ := (HQ.out.below hb2).cells; clear hb2)
          go_ret
          exact ⟨by rw [HT.out]; rfl, HB2.out⟩
end
end Go.Proofs.Ytmcbmbcfgefocaa

/- Contract: Write, of a write that is begun, and which blocks it turns (XDh, once more, with that). -/
namespace Go.Proofs.Ytmcbmbcfgefocaa
open Go.RowKit

section
variable {F : Nat → Prop} {w w' : World} {gd gt gs ct cs : Nat} {vp : Value} {xs : List Value} {VT VS : Nat → Value} {S S' : DS}
theorem write_finT {w1 w2 w6 : World} {g5 c5 i : Nat} {u : Value} {f : Nat → Nat} (hd : Dk F w1 gd gt gs ct cs vp xs VT VS S) (ho : Only (· = gd) w w1) (hz : w1.heap.size = w.heap.size) (hb : Below w1.heap.size w1 w2) (hu : Sec (New w1) w2 u f)
    (ho6 : Only (fun k => k = gd ∨ k = gs ∨ vp.ownBlock = some k) w2 w6)
    (hbox : w6.rowIs gd 53 5 (dv (.slice (some ⟨gt, 0, none⟩) S.n ct) (.slice (some ⟨gs, 0, none⟩) S.n cs) (.slice (some ⟨g5, 0, none⟩) (S.P.length + 1) c5) (.bool S.gone) (.int .i64 (S.left : Nat))))
    (hse : w6.rowIs gs 35 cs VS) (how : w6.ownsRow 0 68 2 (.slice (some ⟨g5, 0, none⟩) (S.P.length + 1) c5) (S.P.length + 1) (xs ++ [.int .i64 (i : Nat), u]))
    (hat : vp.ownBlock = some g5 ∨ w2.heap.size ≤ g5) (hi : i < S.n) : DPost F w (w6.setCell ⟨gs, i, none⟩ u).drew gd (S.wrote i f) ∧ Only (fun k => k = gd ∨ k = gs ∨ vp.ownBlock = some k) w (w6.setCell ⟨gs, i, none⟩ u).drew := by
  have hoA : Only (fun k => k = gd ∨ k = gs ∨ vp.ownBlock = some k) w2 (w6.setCell ⟨gs, i, none⟩ u).drew := (ho6.setCell (a := ⟨gs, i, none⟩) (.inl (.inr (.inl rfl))) u).drew
  have hoB : Only (fun k => k = gd ∨ k = gs ∨ vp.ownBlock = some k) w1 (w6.setCell ⟨gs, i, none⟩ u).drew := (Only.of_below hb).trans hoA
  have lgd := hd.lt _ hd.fd
  have lgs := hd.lt _ hd.fs
  have hs2 := hb.size
  have hg5 := (World.ownsRow.lt how g5 rfl).2
  have hs6 : (w6.setCell ⟨gs, i, none⟩ u).drew.heap.size = w6.heap.size := by simp [World.setCell]
  have hne : g5 ≠ gs := by
    intro e
    subst e
    rcases hat with e | e
    · exact (hd.px _ e).2.2.1 rfl
    · omega
  obtain ⟨gu, hgu, hgu1, hgu2⟩ := hu.lt
  have hgu1' : w1.heap.size ≤ gu := hgu1
  refine ⟨⟨_, ⟨gt, gs, ct, cs, _, _, VT, fun j => if j = i then u else VS j, hd.wrote (w' := (w6.setCell ⟨gs, i, none⟩ u).drew) (vp' := .slice (some ⟨g5, 0, none⟩) (S.P.length + 1) c5) (u := u) (f := f) hi hoB
    ((hbox.setOther (a := ⟨gs, i, none⟩) hd.ds u).drew) ((hse.set i u).drew) (own_keep how fun k hk => ?_) (fun _ => rfl) ?_ (fun k hk => ?_)⟩, ?_, fun k hk => ?_⟩, (ho.mono (by rintro k rfl; exact .inl rfl)).trans hoB⟩
  · injection hk with hk
    subst hk
    exact Below.heap_setCell _ _ _ _ hne
  · refine Sec.keep (R := fun k => k = gu) ?_ (fun k hk hl => hoA.block k hl ?_) (fun k hk hl => ⟨by omega, ?_⟩)
    · obtain ⟨g, o, c, rfl, e1, e2, e3, e4⟩ := hu
      injection hgu with hgu
      exact ⟨g, o, c, rfl, e1, hgu, e3, e4⟩
    · rintro (e | e | e)
      · omega
      · omega
      · have := hd.lt k (hd.px k e).2.2.2
        omega
    · intro e
      injection e with e
      have e' : g5 = k := e
      rcases hat with h | h
      · have := hd.lt g5 (hd.px g5 h).2.2.2
        omega
      · omega
  · injection hk with hk
    have hk' : g5 = k := hk
    subst hk'
    rcases hat with h | h
    · exact .inl h
    · exact .inr ⟨by omega, by rw [hs6]; exact hg5⟩
  · refine (ho.mono ?_).trans ((hoB.mono ?_))
    · rintro k rfl; exact hd.fd
    · rintro k (rfl | rfl | e)
      · exact hd.fd
      · exact hd.fs
      · exact (hd.px k e).2.2.2
  · rcases hk with e | e
    · exact .inl e
    · exact .inr (by omega)
set_option maxHeartbeats 2000000 in
theorem write_okT (h : Dk F w gd gt gs ct cs vp xs VT VS S) (hg : S.gone = false) (hk : S.ok = true) (i : Nat) (hi : i < S.n) (hP : S.P.length ≤ 1000000) {a : Option Addr} {c : Nat} {f : Nat → Nat} (hv : ∀ w1, Only (· = gd) w w1 → Sec (fun _ => True) w1 (.slice a 64 c) f) :
    Calls Try.prog 49 #[.pointer (some ⟨gd, 0, none⟩), .int .i64 (i : Nat), .slice a 64 c] w fun e w' => e = .returned (.int .i64 0) ∧ DPost F w w' gd (S.begun.wrote i f) ∧ Only (fun k => k = gd ∨ k = gs ∨ vp.ownBlock = some k) w w' := by
  obtain ⟨pa, pn, pc, rfl⟩ : ∃ pa pn pc, vp = .slice pa pn pc := by
    rcases h.pe.2 with ⟨e, _⟩ | ⟨g, c, cur, e, _⟩
    · exact ⟨_, _, _, e⟩
    · exact ⟨_, _, _, e⟩
  obtain ⟨c0, c1, c2, c3, c4⟩ := dvr h.box
  rw [hg] at c3
  have HH := Lib.hid (has_any h (i : Int))
  rw [show hasB S.n (i : Int) = true from by simp [hasB, hi]] at HH
  have HG := Lib.hid (begin_any h hg)
  rw [hk] at HG
  have HL := Lib.hid h.lt
  have HV := Lib.hid hv
  clear h hv hg hk
  go_enter Try.func49, Try.ntmps49
  go_wp2_with (first
    | (go_at_call 63; refine HH.out.mono ?_; rintro e w' ⟨rfl, rfl⟩)
    | (go_at_call 64; refine HG.out.mono ?_; rintro e w1 ⟨rfl, hd, ho, hz⟩; have HD := Lib.hid hd; have HO := Lib.hid ho; have HZ := Lib.hid hz; clear hd ho hz)
    | (go_at_call 39; refine (clone_os (R := fun _ => True) (s := some f) ?qsec).mono ?_
       case qsec => exact HV.out w1 HO.out
       rintro e w2 ⟨ua, un, uc, rfl, hu, hb2⟩))
  have HU := Lib.hid (show Sec (New w1) w2 (.slice ua un uc) f from hu)
  have HB2 := Lib.hid hb2
  have hs2 := hb2.size
  have HD3 := Lib.hid (HD.out.keep (w' := w2.alloc (.cells #[.int .i64 (i : Nat), .slice ua un uc] 68)) (fun k hk => (Below.heap_alloc w2 _ k (Nat.lt_of_lt_of_le (HD.out.lt k hk) hs2)).trans (hb2.block k (HD.out.lt k hk))) (by rw [World.size_alloc]; omega))
  have hx0 := new_cells (w := w2) (cs := [.int .i64 (i : Nat), .slice ua un uc]) (t := 68) 0 _ rfl
  have hx1 := new_cells (w := w2) (cs := [.int .i64 (i : Nat), .slice ua un uc]) (t := 68) 1 _ rfl
  rw [add_mk, Nat.zero_add] at hx0 hx1
  have HO3 := Lib.hid (show Only (fun k => k = gd ∨ k = gs ∨ (Value.slice pa pn pc).ownBlock = some k) w2 (w2.alloc (.cells #[.int .i64 (i : Nat), .slice ua un uc] 68)) from Only.refl.alloc _)
  have hs3 : (w2.alloc (.cells #[.int .i64 (i : Nat), .slice ua un uc] 68)).heap.size = w2.heap.size + 1 := by rw [World.size_alloc]
  generalize w2.alloc (.cells #[.int .i64 (i : Nat), .slice ua un uc] 68) = w3 at *
  have hbox3 := HD3.out.box
  obtain ⟨c0, c1, c2, c3, c4⟩ := dvr hbox3
  have HPE := Lib.hid (own_keep (w' := w3.drew.alloc (.cells #[.int .i64 (i : Nat), .slice ua un uc] 68)) HD3.out.pe fun k hk => Below.heap_alloc w3.drew _ k (HD3.out.lt k (HD3.out.px k hk).2.2.2))
  have HBX := Lib.hid (hbox3.drew.alloc (.cells #[.int .i64 (i : Nat), .slice ua un uc] 68))
  have HSE := Lib.hid (HD3.out.se.drew.alloc (.cells #[.int .i64 (i : Nat), .slice ua un uc] 68))
  have HPL := Lib.hid (show S.begun.P.length = S.P.length from by unfold DS.begun; split; rfl; split <;> rfl)
  rw [HPL.out] at HPE
  have HNE := Lib.hid HD3.out.px
  have hlt3 := hbox3.lt
  have hlt4 : w2.heap.size < w3.heap.size := by omega
  have HS3 := Lib.hid hs3
  clear hs3
  clear hu hb2 hbox3
  go_region_law (
    refine step_append_more rfl (.tmp 32) (.tmp 34) 51 rfl 0 68 _ 2 32 Try.underlying51 write_info rfl (by omega) (.slice pa pn pc) S.P.length xs (by simp [Act.eval]) HPE.out ⟨w3.heap.size, 0, none⟩ 1 1 [.int .i64 (i : Nat), .slice ua un uc] (by simp [Act.eval]) rfl (fun j u hu => new_cells (w := w3.drew) j u hu) (by simp [Value.oneCell']) (by simp only [maxLen]; omega) (by omega) (Nat.zero_le _) (by omega) ?_
    intro g5 c5 w5 hown5 hg5 hat5
    have hbox5 := HBX.out.of_block (hg5.block gd HBX.out.lt (fun e => (HNE.out gd e.symm).1 rfl))
    obtain ⟨d0, d1, d2, d3, d4⟩ := dvr hbox5
    have dz := hbox5.frozen 2)
  all_goals
    have HBX6 := Lib.hid (dv_set2 hbox5 (.slice (some ⟨g5, 0, none⟩) (S.P.length + 1) c5))
    have hgs5 : w5.heap[gs]? = _ := hg5.block gs HSE.out.lt (fun e => (HNE.out gs e.symm).2.2.1 rfl)
    have HSE6 := Lib.hid ((HSE.out.of_block hgs5).setOther (a := ⟨gd, 2, none⟩) (fun e => HD3.out.ds e.symm) (.slice (some ⟨g5, 0, none⟩) (S.P.length + 1) c5))
    have HOW6 := Lib.hid (own_keep (w' := w5.setCell ⟨gd, 2, none⟩ (.slice (some ⟨g5, 0, none⟩) (S.P.length + 1) c5)) hown5 (fun k hk => Below.heap_setCell _ _ _ _ (by
      show k ≠ gd
      injection hk with hk
      subst hk
      intro e
      rcases hat5 with h | h
      · exact (HNE.out _ h).1 e
      · have h2 : gd = _ := (show g5 = gd from e).symm.trans h
        simp at h2
        omega)))
    have HO6 := Lib.hid (((((HO3.out.drew).alloc (.cells #[.int .i64 (i : Nat), .slice ua un uc] 68)).grown hg5 (fun k hk => .inl (.inr (.inr hk)))).setCell (a := ⟨gd, 2, none⟩) (.inl (.inl rfl)) (.slice (some ⟨g5, 0, none⟩) (S.P.length + 1) c5)))
    have HAT := Lib.hid hat5
    have hx5 : (w5.setCell ⟨gd, 2, none⟩ (.slice (some ⟨g5, 0, none⟩) (S.P.length + 1) c5)).cell? ⟨w2.heap.size, 1, none⟩ = some (.slice ua un uc) := by
      have hgl : gd < w2.heap.size := Nat.lt_of_lt_of_le (HD.out.lt gd HD.out.fd) hs2
      rw [World.cell?_of_block (w := w5) (Below.heap_setCell _ _ _ _ (by show w2.heap.size ≠ gd; omega))]
      rw [World.cell?_of_block (w := w3.drew.alloc (.cells #[.int .i64 (i : Nat), .slice ua un uc] 68)) (hg5.block _ (by simp; omega) (fun e => by
        have h1 := (HNE.out _ e.symm).2.2.2
        have h2 := HD.out.lt _ h1
        simp only at h2
        omega))]
      rw [World.cell?_of_block (w := w3) (Below.heap_alloc w3.drew _ _ hlt4)]
      exact hx1
    clear hown5 hg5 hat5 hbox5 d0 d1 d2 d3 d4 dz hx0 hx1 hgs5 c0 c1 c2 c3 c4
    generalize w5.setCell ⟨gd, 2, none⟩ (.slice (some ⟨g5, 0, none⟩) (S.P.length + 1) c5) = w6 at *
    have hns := HD.out.ns
    have hbn : S.begun.n = S.n := by unfold DS.begun; split; rfl; split <;> rfl
    rw [hbn] at hns
    have hcc := HSE6.out.cell (i := i) (by omega)
    have hcf := HSE6.out.frozen i
    obtain ⟨d0, d1, d2, d3, d4⟩ := dvr HBX6.out
    rw [hbn] at d1
    have HBN := Lib.hid hbn
    clear hbn
    go_wp2
    go_region
  all_goals
    go_wp2
    go_ret
    exact ⟨rfl, write_finT HD.out HO.out HZ.out HB2.out HU.out HO6.out (by rw [HPL.out]; exact HBX6.out) HSE6.out (by rw [HPL.out]; exact HOW6.out) (HAT.out.imp id fun e => by
      have e2 : g5 = _ := e
      simp at e2
      omega) (by rw [HBN.out]; exact hi)⟩
end
end Go.Proofs.Ytmcbmbcfgefocaa

/- Contract: a disk's Write, and Flush, with what types the blocks are that they turn. -/
namespace Go.Proofs.Ytmcbmbcfgefocaa
open Go.RowKit
set_option linter.unusedSimpArgs false
set_option linter.unusedVariables false

def tyW (t : TypeId) : Prop := t = 53 ∨ t = 35 ∨ t = 68
abbrev FrW (w w' : World) : Prop := Fr tyW (fun _ => False) w w'
section
variable {F : Nat → Prop} {w w' : World} {gd gt gs ct cs : Nat} {vp : Value} {xs : List Value} {VT VS : Nat → Value} {S S' : DS}
theorem Dk.frw (h : Dk F w gd gt gs ct cs vp xs VT VS S) (ho : Only (fun k => k = gd ∨ k = gs ∨ vp.ownBlock = some k) w w') : FrW w w' :=
  ⟨ho.os, ho.tape, ho.output, ho.size, fun k o hk _ ht => by
    refine (ho.block k (Array.getElem?_eq_some_iff.1 hk).1 ?_).trans hk
    rintro (rfl | rfl | e)
    · obtain ⟨c, hc, _⟩ := h.box
      rw [hc] at hk
      injection hk with hk
      exact ht _ _ _ hk.symm (.inl rfl)
    · obtain ⟨c, hc, _⟩ := h.se
      rw [hc] at hk
      injection hk with hk
      exact ht _ _ _ hk.symm (.inr (.inl rfl))
    · rcases h.pe.2 with ⟨rfl, _⟩ | ⟨g, c, cur, rfl, _, hc, _⟩
      · cases e
      · injection e with e
        subst e
        rw [hc] at hk
        injection hk with hk
        exact ht _ _ _ hk.symm (.inr (.inr rfl))⟩
theorem Dk.frw1 (h : Dk F w gd gt gs ct cs vp xs VT VS S) (ho : Only (· = gd) w w') : FrW w w' := h.frw (ho.mono fun k e => .inl e)
/-- Bytes aren't in the disk's own block. -/
theorem Dk.sec (h : Dk F w gd gt gs ct cs vp xs VT VS S) {a : Option Addr} {c : Nat} {f : Nat → Nat} (hv : Byt w (.slice a 64 c) 64 f) {w1 : World} (ho : Only (· = gd) w w1) : Sec (fun _ => True) w1 (.slice a 64 c) f := by
  obtain ⟨A, c', e, hc, hr, hf⟩ := hv
  cases e
  obtain ⟨ad, rfl, hl⟩ := hr.some_ (by omega)
  obtain ⟨b, o, sp⟩ := ad
  have h0 : w.cell? ⟨b, o, sp⟩ = some (.int .u8 (f 0 : Nat)) := hr.at_ (j := 0) (by omega)
  cases sp with
  | some x =>
    rw [World.cell?] at h0
    split at h0
    · simp at h0
    · cases h0
  | none =>
    have hne : b ≠ gd := fun e => by
      subst e
      obtain ⟨cs, hcs, hsz, hget⟩ := h.box
      rw [cell_of_row _ _ o cs _ _ hcs] at h0
      by_cases hj : o < 5
      · rw [hget o hj] at h0
        rcases (by omega : o = 0 ∨ o = 1 ∨ o = 2 ∨ o = 3 ∨ o = 4) with rfl | rfl | rfl | rfl | rfl <;> simp [dv] at h0
        rcases h.pe.2 with ⟨hvp, _⟩ | ⟨g, c, cur, hvp, _⟩ <;> rw [hvp] at h0 <;> cases h0
      · rw [Array.getElem?_eq_none (by omega)] at h0
        cases h0
    refine ⟨b, o, c, rfl, hc, trivial, fun j hj => ?_, hf⟩
    have h1 := hr.at_ hj
    rw [add_mk] at h1
    exact (World.cell?_of_block (ho.block b hl hne)).trans h1
end
def WrPost (F : Nat → Prop) (gd : Nat) (S : DS) (i : Nat) (f : Nat → Nat) (w w' : World) (e : Ending) : Prop := e = .returned (.int .i64 (S.write (i : Nat) f).2) ∧ DPost F w w' gd (S.write (i : Nat) f).1 ∧ FrW w w'
theorem dwrite_any {F : Nat → Prop} {w : World} {gd : Nat} {S : DS} (hF : DskAt F w gd S) (hP : S.P.length ≤ 1000000) (i : Nat) {a : Option Addr} {c : Nat} {f : Nat → Nat} (hv : Byt w (.slice a 64 c) 64 f) :
    Calls Try.prog 49 #[.pointer (some ⟨gd, 0, none⟩), .int .i64 (i : Nat), .slice a 64 c] w fun e w' => WrPost F gd S i f w w' e := by
  obtain ⟨gt, gs, ct, cs, vp, xs, VT, VS, hd⟩ := id hF
  have key : ∀ r, S.write (i : Nat) f = r → Calls Try.prog 49 #[.pointer (some ⟨gd, 0, none⟩), .int .i64 (i : Nat), .slice a 64 c] w fun e w' => e = .returned (.int .i64 r.2) ∧ DPost F w w' gd r.1 ∧ FrW w w' := by
    intro r hr
    unfold DS.write at hr
    cases hg : S.gone
    case true =>
      rw [hg] at hr
      subst hr
      refine (write_gone hd hg i _).mono ?_
      rintro e w' ⟨rfl, rfl⟩
      exact ⟨rfl, .stay hF, Fr.refl⟩
    case false =>
      cases hi : hasB S.n i
      case false =>
        rw [hg, hi] at hr
        subst hr
        refine (write_bad hd hg i a 64 c (.inl hi)).mono ?_
        rintro e w' ⟨rfl, rfl⟩
        exact ⟨rfl, .stay hF, Fr.refl⟩
      case true =>
        cases hk : S.ok
        case false =>
          rw [hg, hi, hk] at hr
          subst hr
          refine (write_stop hd hg hk i hi a c).mono ?_
          rintro e w' ⟨rfl, a1, a2⟩
          exact ⟨rfl, .box a1 a2, hd.frw1 a2⟩
        case true =>
          rw [hg, hi, hk] at hr
          subst hr
          obtain ⟨i0, i1⟩ := hasB_true hi
          refine (write_okT hd hg hk i (by omega) hP (a := a) (c := c) (f := f) fun w1 ho => hd.sec hv ho).mono ?_
          rintro e w' ⟨rfl, a1, a2⟩
          exact ⟨rfl, a1, hd.frw a2⟩
  exact key _ rfl
end Go.Proofs.Ytmcbmbcfgefocaa
