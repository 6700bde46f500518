/- Contract: Write, of a write that is begun. -/
import Derived.Test.YtmcbmbcfgefocaaPDg
namespace Go.Proofs.Ytmcbmbcfgefocaa
open Go.RowKit

theorem write_info : (Try.prog.info? 68).map (fun i => (i.zero, i.size, i.bytes)) = some (some (.agg #[.int .i64 0, .slice none 0 0]), 2, 32) := by kernel_rfl
theorem new_cells {w : World} {cs : List Value} {t : TypeId} (j : Nat) (u : Value) (h : cs[j]? = some u) : (w.alloc (.cells cs.toArray t)).cell? ((⟨w.heap.size, 0, none⟩ : Addr).add j) = some u := by
  rw [add_mk, Nat.zero_add, cell_of_row _ _ _ _ _ _ (heap_alloc_new w _)]
  simpa using h
section
variable {F : Nat → Prop} {w w' : World} {gd gt gs ct cs : Nat} {vp : Value} {xs : List Value} {VT VS : Nat → Value} {S S' : DS}
theorem write_fin {w1 w2 w6 : World} {g5 c5 i : Nat} {u : Value} {f : Nat → Nat} (hd : Dk F w1 gd gt gs ct cs vp xs VT VS S) (ho : Only (· = gd) w w1) (hz : w1.heap.size = w.heap.size) (hb : Below w1.heap.size w1 w2) (hu : Sec (New w1) w2 u f)
    (ho6 : Only (fun k => k = gd ∨ k = gs ∨ vp.ownBlock = some k) w2 w6)
    (hbox : w6.rowIs gd 53 5 (dv (.slice (some ⟨gt, 0, none⟩) S.n ct) (.slice (some ⟨gs, 0, none⟩) S.n cs) (.slice (some ⟨g5, 0, none⟩) (S.P.length + 1) c5) (.bool S.gone) (.int .i64 (S.left : Nat))))
    (hse : w6.rowIs gs 35 cs VS) (how : w6.ownsRow 0 68 2 (.slice (some ⟨g5, 0, none⟩) (S.P.length + 1) c5) (S.P.length + 1) (xs ++ [.int .i64 (i : Nat), u]))
    (hat : vp.ownBlock = some g5 ∨ w2.heap.size ≤ g5) (hi : i < S.n) : DPost F w (w6.setCell ⟨gs, i, none⟩ u).drew gd (S.wrote i f) := by
  have hoA : Only (fun k => k = gd ∨ k = gs ∨ vp.ownBlock = some k) w2 (w6.setCell ⟨gs, i, none⟩ u).drew := (ho6.setCell (a := ⟨gs, i, none⟩) (.inl (.inr (.inl rfl))) u).drew
  have hoB : Only (fun k => k = gd ∨ k = gs ∨ vp.ownBlock = some k) w1 (w6.setCell ⟨gs, i, none⟩ u).drew := (Only.of_below hb).trans hoA
  have lgd := hd.lt _ hd.fd
  have lgs := hd.lt _ hd.fs
  have hs2 := hb.size
  have hg5 := (World.ownsRow.lt how g5 rfl).2
  have hs6 : (w6.setCell ⟨gs, i, none⟩ u).drew.heap.size = w6.heap.size := by simp [World.setCell]
  have hne : g5 ≠ gs := by
    intro e
    subst e
    rcases hat with e | e
    · exact (hd.px _ e).2.2.1 rfl
    · omega
  obtain ⟨gu, hgu, hgu1, hgu2⟩ := hu.lt
  have hgu1' : w1.heap.size ≤ gu := hgu1
  refine ⟨_, ⟨gt, gs, ct, cs, _, _, VT, fun j => if j = i then u else VS j, hd.wrote (w' := (w6.setCell ⟨gs, i, none⟩ u).drew) (vp' := .slice (some ⟨g5, 0, none⟩) (S.P.length + 1) c5) (u := u) (f := f) hi hoB
    ((hbox.setOther (a := ⟨gs, i, none⟩) hd.ds u).drew) ((hse.set i u).drew) (own_keep how fun k hk => ?_) (fun _ => rfl) ?_ (fun k hk => ?_)⟩, ?_, fun k hk => ?_⟩
  · injection hk with hk
    subst hk
    exact Below.heap_setCell _ _ _ _ hne
  · refine Sec.keep (R := fun k => k = gu) ?_ (fun k hk hl => hoA.block k hl ?_) (fun k hk hl => ⟨by omega, ?_⟩)
    · obtain ⟨g, o, c, rfl, e1, e2, e3, e4⟩ := hu
      injection hgu with hgu
      exact ⟨g, o, c, rfl, e1, hgu, e3, e4⟩
    · rintro (e | e | e)
      · omega
      · omega
      · have := hd.lt k (hd.px k e).2.2.2
        omega
    · intro e
      injection e with e
      have e' : g5 = k := e
      rcases hat with h | h
      · have := hd.lt g5 (hd.px g5 h).2.2.2
        omega
      · omega
  · injection hk with hk
    have hk' : g5 = k := hk
    subst hk'
    rcases hat with h | h
    · exact .inl h
    · exact .inr ⟨by omega, by rw [hs6]; exact hg5⟩
  · refine (ho.mono ?_).trans ((hoB.mono ?_))
    · rintro k rfl; exact hd.fd
    · rintro k (rfl | rfl | e)
      · exact hd.fd
      · exact hd.fs
      · exact (hd.px k e).2.2.2
  · rcases hk with e | e
    · exact .inl e
    · exact .inr (by omega)
set_option maxRecDepth 100000 in
set_option maxHeartbeats 2000000 in
theorem write_ok (h : Dk F w gd gt gs ct cs vp xs VT VS S) (hg : S.gone = false) (hk : S.ok = true) (i : Nat) (hi : i < S.n) (hP : S.P.length ≤ 1000000) {a : Option Addr} {c : Nat} {f : Nat → Nat} (hv : ∀ w1, Only (· = gd) w w1 → Sec (fun _ => True) w1 (.slice a 64 c) f) :
    Calls Try.prog 49 #[.pointer (some ⟨gd, 0, none⟩), .int .i64 (i : Nat), .slice a 64 c] w fun e w' => e = .returned (.int .i64 0) ∧ DPost F w w' gd (S.begun.wrote i f) := by
  obtain ⟨pa, pn, pc, rfl⟩ : ∃ pa pn pc, vp = .slice pa pn pc := by
    rcases h.pe.2 with ⟨e, _⟩ | ⟨g, c, cur, e, _⟩
    · exact ⟨_, _, _, e⟩
    · exact ⟨_, _, _, e⟩
  obtain ⟨c0, c1, c2, c3, c4⟩ := dvr h.box
  rw [hg] at c3
  have HH := Lib.hid (has_any h (i : Int))
  rw [show hasB S.n (i : Int) = true from by simp [hasB, hi]] at HH
  have HG := Lib.hid (begin_any h hg)
  rw [hk] at HG
  have HL := Lib.hid h.lt
  have HV := Lib.hid hv
  clear h hv hg hk
  go_enter Try.func49, Try.ntmps49
  go_wp2_with (first
    | (go_at_call 63; refine HH.out.mono ?_; rintro e w' ⟨rfl, rfl⟩)
    | (go_at_call 64; refine HG.out.mono ?_; rintro e w1 ⟨rfl, hd, ho, hz⟩; have HD := Lib.hid hd; have HO := Lib.hid ho; have HZ := Lib.hid hz; clear hd ho hz)
    | (go_at_call 39; refine (clone_os (R := fun _ => True) (s := some f) ?qsec).mono ?_
       case qsec => exact HV.out w1 HO.out
       rintro e w2 ⟨ua, un, uc, rfl, hu, hb2⟩))
  have HU := Lib.hid (show Sec (New w1) w2 (.slice ua un uc) f from hu)
  have HB2 := Lib.hid hb2
  have hs2 := hb2.size
  have HD3 := Lib.hid (HD.out.keep (w' := w2.alloc (.cells #[.int .i64 (i : Nat), .slice ua un uc] 68)) (fun k hk => (Below.heap_alloc w2 _ k (Nat.lt_of_lt_of_le (HD.out.lt k hk) hs2)).trans (hb2.block k (HD.out.lt k hk))) (by rw [World.size_alloc]; omega))
  have hx0 := new_cells (w := w2) (cs := [.int .i64 (i : Nat), .slice ua un uc]) (t := 68) 0 _ rfl
  have hx1 := new_cells (w := w2) (cs := [.int .i64 (i : Nat), .slice ua un uc]) (t := 68) 1 _ rfl
  rw [add_mk, Nat.zero_add] at hx0 hx1
  have HO3 := Lib.hid (show Only (fun k => k = gd ∨ k = gs ∨ (Value.slice pa pn pc).ownBlock = some k) w2 (w2.alloc (.cells #[.int .i64 (i : Nat), .slice ua un uc] 68)) from Only.refl.alloc _)
  have hs3 : (w2.alloc (.cells #[.int .i64 (i : Nat), .slice ua un uc] 68)).heap.size = w2.heap.size + 1 := by rw [World.size_alloc]
  generalize w2.alloc (.cells #[.int .i64 (i : Nat), .slice ua un uc] 68) = w3 at *
  have hbox3 := HD3.out.box
  obtain ⟨c0, c1, c2, c3, c4⟩ := dvr hbox3
  have HPE := Lib.hid (own_keep (w' := w3.drew.alloc (.cells #[.int .i64 (i : Nat), .slice ua un uc] 68)) HD3.out.pe fun k hk => Below.heap_alloc w3.drew _ k (HD3.out.lt k (HD3.out.px k hk).2.2.2))
  have HBX := Lib.hid (hbox3.drew.alloc (.cells #[.int .i64 (i : Nat), .slice ua un uc] 68))
  have HSE := Lib.hid (HD3.out.se.drew.alloc (.cells #[.int .i64 (i : Nat), .slice ua un uc] 68))
  have HPL := Lib.hid (show S.begun.P.length = S.P.length from by unfold DS.begun; split; rfl; split <;> rfl)
  rw [HPL.out] at HPE
  have HNE := Lib.hid HD3.out.px
  have hlt3 := hbox3.lt
  have hlt4 : w2.heap.size < w3.heap.size := by omega
  have HS3 := Lib.hid hs3
  clear hs3
  clear hu hb2 hbox3
  go_region_law (
    refine step_append_more rfl (.tmp 32) (.tmp 34) 51 rfl 0 68 _ 2 32 Try.underlying51 write_info rfl (by omega) (.slice pa pn pc) S.P.length xs (by simp [Act.eval]) HPE.out ⟨w3.heap.size, 0, none⟩ 1 1 [.int .i64 (i : Nat), .slice ua un uc] (by simp [Act.eval]) rfl (fun j u hu => new_cells (w := w3.drew) j u hu) (by simp [Value.oneCell']) (by simp only [maxLen]; omega) (by omega) (Nat.zero_le _) (by omega) ?_
    intro g5 c5 w5 hown5 hg5 hat5
    have hbox5 := HBX.out.of_block (hg5.block gd HBX.out.lt (fun e => (HNE.out gd e.symm).1 rfl))
    obtain ⟨d0, d1, d2, d3, d4⟩ := dvr hbox5
    have dz := hbox5.frozen 2)
  all_goals
    have HBX6 := Lib.hid (dv_set2 hbox5 (.slice (some ⟨g5, 0, none⟩) (S.P.length + 1) c5))
    have hgs5 : w5.heap[gs]? = _ := hg5.block gs HSE.out.lt (fun e => (HNE.out gs e.symm).2.2.1 rfl)
    have HSE6 := Lib.hid ((HSE.out.of_block hgs5).setOther (a := ⟨gd, 2, none⟩) (fun e => HD3.out.ds e.symm) (.slice (some ⟨g5, 0, none⟩) (S.P.length + 1) c5))
    have HOW6 := Lib.hid (own_keep (w' := w5.setCell ⟨gd, 2, none⟩ (.slice (some ⟨g5, 0, none⟩) (S.P.length + 1) c5)) hown5 (fun k hk => Below.heap_setCell _ _ _ _ (by
      show k ≠ gd
      injection hk with hk
      subst hk
      intro e
      rcases hat5 with h | h
      · exact (HNE.out _ h).1 e
      · have h2 : gd = _ := (show g5 = gd from e).symm.trans h
        simp at h2
        omega)))
    have HO6 := Lib.hid (((((HO3.out.drew).alloc (.cells #[.int .i64 (i : Nat), .slice ua un uc] 68)).grown hg5 (fun k hk => .inl (.inr (.inr hk)))).setCell (a := ⟨gd, 2, none⟩) (.inl (.inl rfl)) (.slice (some ⟨g5, 0, none⟩) (S.P.length + 1) c5)))
    have HAT := Lib.hid hat5
    have hx5 : (w5.setCell ⟨gd, 2, none⟩ (.slice (some ⟨g5, 0, none⟩) (S.P.length + 1) c5)).cell? ⟨w2.heap.size, 1, none⟩ = some (.slice ua un uc) := by
      have hgl : gd < w2.heap.size := Nat.lt_of_lt_of_le (HD.out.lt gd HD.out.fd) hs2
      rw [World.cell?_of_block (w := w5) (Below.heap_setCell _ _ _ _ (by show w2.heap.size ≠ gd; omega))]
      rw [World.cell?_of_block (w := w3.drew.alloc (.cells #[.int .i64 (i : Nat), .slice ua un uc] 68)) (hg5.block _ (by simp; omega) (fun e => by
        have h1 := (HNE.out _ e.symm).2.2.2
        have h2 := HD.out.lt _ h1
        simp only at h2
        omega))]
      rw [World.cell?_of_block (w := w3) (Below.heap_alloc w3.drew _ _ hlt4)]
      exact hx1
    clear hown5 hg5 hat5 hbox5 d0 d1 d2 d3 d4 dz hx0 hx1 hgs5 c0 c1 c2 c3 c4
    generalize w5.setCell ⟨gd, 2, none⟩ (.slice (some ⟨g5, 0, none⟩) (S.P.length + 1) c5) = w6 at *
    have hns := HD.out.ns
    have hbn : S.begun.n = S.n := by unfold DS.begun; split; rfl; split <;> rfl
    rw [hbn] at hns
    have hcc := HSE6.out.cell (i := i) (by omega)
    have hcf := HSE6.out.frozen i
    obtain ⟨d0, d1, d2, d3, d4⟩ := dvr HBX6.out
    rw [hbn] at d1
    have HBN := Lib.hid hbn
    clear hbn
    go_wp2
    go_region
  all_goals
    go_wp2
    go_ret
    exact ⟨rfl, write_fin HD.out HO.out HZ.out HB2.out HU.out HO6.out (by rw [HPL.out]; exact HBX6.out) HSE6.out (by rw [HPL.out]; exact HOW6.out) (HAT.out.imp id fun e => by
      have e2 : g5 = _ := e
      simp at e2
      omega) (by rw [HBN.out]; exact hi)⟩
end
end Go.Proofs.Ytmcbmbcfgefocaa

/- Contract: Flush. -/
namespace Go.Proofs.Ytmcbmbcfgefocaa
open Go.RowKit

section
variable {F : Nat → Prop} {w w' : World} {gd gt gs ct cs : Nat} {vp : Value} {xs : List Value} {VT VS : Nat → Value} {S S' : DS}
theorem flush_gone (h : Dk F w gd gt gs ct cs vp xs VT VS S) (hg : S.gone = true) :
    Calls Try.prog 50 #[.pointer (some ⟨gd, 0, none⟩)] w fun e w' => e = .returned (.int .i64 4) ∧ w = w' := by
  obtain ⟨c0, c1, c2, c3, c4⟩ := dvr h.box
  rw [hg] at c3
  clear h hg
  go_enter Try.func50, Try.ntmps50
  go_wp2
  go_ret
  exact ⟨rfl, rfl⟩
theorem flush_stop (h : Dk F w gd gt gs ct cs vp xs VT VS S) (hg : S.gone = false) (hk : S.ok = false) :
    Calls Try.prog 50 #[.pointer (some ⟨gd, 0, none⟩)] w fun e w' => e = .returned (.int .i64 4) ∧ Dk F w' gd gt gs ct cs vp xs VT VS S.begun ∧ Only (· = gd) w w' := by
  obtain ⟨c0, c1, c2, c3, c4⟩ := dvr h.box
  rw [hg] at c3
  have HG := Lib.hid (begin_any h hg)
  rw [hk] at HG
  clear h hg hk
  go_enter Try.func50, Try.ntmps50
  go_wp2_with (go_at_call 64; refine HG.out.mono ?_; rintro e w' ⟨rfl, hd, ho, _⟩; have HD := Lib.hid hd; have HO := Lib.hid ho; clear hd ho)
  go_ret
  exact ⟨rfl, HD.out, HO.out⟩
theorem Rw.nil {F : Nat → Prop} {gd gt gs : Nat} {vp : Value} {k : Nat} (h : Rw F gd gt gs vp k) : Rw F gd gt gs (.slice none 0 0) k := ⟨h.1, h.2.1, h.2.2.1, h.2.2.2.1, by simp [Value.ownBlock]⟩
/-- All that is pending is there. -/
theorem flush_fin {w1 w3 : World} {m : Nat} (hd : Dk F w1 gd gt gs ct cs vp xs VT VS S) (ho : Only (· = gd) w w1) (ho3 : Only (fun k => k = gd ∨ k = gt) w1 w3) (hth : w3.rowIs gt 35 ct (splV VT 0 m VS)) (hm : m = S.n)
    (hbox : w3.rowIs gd 53 5 (dv (.slice (some ⟨gt, 0, none⟩) S.n ct) (.slice (some ⟨gs, 0, none⟩) S.n cs) (.slice none 0 0) (.bool S.gone) (.int .i64 (S.left : Nat)))) : DPost F w w3 gd S.flushed := by
  subst hm
  have kb : ∀ k, Rw F gd gt gs vp k → k < w1.heap.size → w3.heap[k]? = w1.heap[k]? := fun k hk hl => ho3.block k hl (by rintro (e | e); exact hk.2.1 e; exact hk.2.2.1 e)
  refine ⟨F, ⟨gt, gs, ct, cs, .slice none 0 0, [], splV VT 0 S.n VS, VS, ?_⟩, (ho.mono ?_).trans (ho3.mono ?_), fun k hk => .inl hk⟩
  · exact {
      box := hbox
      th := hth
      se := ho3.rowIs hd.se (by rintro (e | e); exact hd.ds e.symm; exact hd.ts e.symm)
      pe := World.ownsRow_nil _ _ _ _
      hT := fun i hi => by
        have hi' : i < S.n := hi
        have e : splV VT 0 S.n VS i = VS i := by unfold splV; rw [if_pos ⟨by omega, by omega⟩, Nat.sub_zero]
        rw [e]
        exact (hd.hS i hi').keep kb fun k hk _ => hk.nil
      hS := fun i hi => (hd.hS i hi).keep kb fun k hk _ => hk.nil
      hP := rfl
      n1 := hd.n1
      n2 := hd.n2
      nt := hd.nt
      ns := hd.ns
      lf := hd.lf
      dt := hd.dt
      ds := hd.ds
      ts := hd.ts
      px := fun k hk => by simp [Value.ownBlock] at hk
      fd := hd.fd
      ft := hd.ft
      fs := hd.fs
      lt := fun k hk => Nat.lt_of_lt_of_le (hd.lt k hk) ho3.size }
  · rintro k rfl; exact hd.fd
  · rintro k (rfl | rfl)
    · exact hd.fd
    · exact hd.ft
set_option maxRecDepth 100000 in
set_option maxHeartbeats 2000000 in
theorem flush_ok (h : Dk F w gd gt gs ct cs vp xs VT VS S) (hg : S.gone = false) (hk : S.ok = true) :
    Calls Try.prog 50 #[.pointer (some ⟨gd, 0, none⟩)] w fun e w' => e = .returned (.int .i64 0) ∧ DPost F w w' gd S.begun.flushed := by
  obtain ⟨c0, c1, c2, c3, c4⟩ := dvr h.box
  rw [hg] at c3
  have HG := Lib.hid (begin_any h hg)
  rw [hk] at HG
  clear h hg hk
  go_enter Try.func50, Try.ntmps50
  go_wp2_with (go_at_call 64; refine HG.out.mono ?_; rintro e w1 ⟨rfl, hd, ho, _⟩; have HD := Lib.hid hd; have HO := Lib.hid ho; clear hd ho)
  have hbox := HD.out.box
  have HBX := Lib.hid hbox
  obtain ⟨d0, d1, d2, d3, d4⟩ := dvr hbox
  have QM := Lib.hid (show S.begun.n = Nat.min S.begun.n S.begun.n from (Nat.min_self _).symm)
  have QS := Lib.hid (show ∀ j, j < S.begun.n → w1.drew.cell? ((⟨gs, 0, none⟩ : Addr).add j) = some (VS j) from fun j hj => by
    rw [add_mk, Nat.zero_add]; exact HD.out.se.drew.cell (by have := HD.out.ns; omega))
  have QV := Lib.hid (show ∀ j, j < S.begun.n → (VS j).oneCell' = true from fun j hj => by
    obtain ⟨a, m, c, e⟩ := (HD.out.hS j hj).form
    rw [e]; rfl)
  have QF := Lib.hid (show 0 + S.begun.n ≤ ct from by have := HD.out.nt; omega)
  clear hbox c0 c1 c2 c3 c4
  go_region_law (
    refine step_copy_rowIs rfl (.tmp 15) (.tmp 19) 33 33 rfl 35 Try.underlying33 rows_size gt 0 S.begun.n ct ⟨gs, 0, none⟩ S.begun.n cs (by simp [Act.eval]) (by simp [Act.eval]) 35 ct VT HD.out.th.drew VS S.begun.n QM.out QS.out QV.out QF.out ?_
    intro w2 hth2 hg2 hs2)
  all_goals
    have HTH := Lib.hid (hth2.setOther (a := ⟨gd, 2, none⟩) (fun e => HD.out.dt e.symm) (.slice none 0 0))
    have hb2 := HBX.out.drew.of_block (hg2.block gd HBX.out.lt (fun e => by injection e with e; exact HD.out.dt e))
    have HB2 := Lib.hid (dv_set2 hb2 (.slice none 0 0))
    obtain ⟨e0, e1, e2, e3, e4⟩ := dvr hb2
    have z2 := hb2.frozen 2
    have HO2 := Lib.hid ((((Only.refl (F := fun k => k = gd ∨ k = gt) (w := w1)).drew).grown hg2 (fun k hk => by injection hk with hk; exact .inl (.inr hk.symm))).setCell (a := ⟨gd, 2, none⟩) (.inl (.inl rfl)) (.slice none 0 0))
    clear hth2 hg2 hs2 hb2 d0 d1 d2 d3 d4
    go_wp2
    go_ret
    exact ⟨rfl, flush_fin HD.out HO.out HO2.out HTH.out rfl HB2.out⟩
end
end Go.Proofs.Ytmcbmbcfgefocaa
