/- Contract: Flush. -/
import Derived.Test.YteeomidlnijfbaaPDh
namespace Go.Proofs.Yteeomidlnijfbaa
open Go.RowKit

section
variable {F : Nat → Prop} {w w' : World} {gd gt gs ct cs : Nat} {vp : Value} {xs : List Value} {VT VS : Nat → Value} {S S' : DS}
theorem flush_gone (h : Dk F w gd gt gs ct cs vp xs VT VS S) (hg : S.gone = true) :
    Calls Try.prog 35 #[.pointer (some ⟨gd, 0, none⟩)] w fun e w' => e = .returned (.int .i64 4) ∧ w = w' := by
  obtain ⟨c0, c1, c2, c3, c4⟩ := dvr h.box
  rw [hg] at c3
  clear h hg
  go_enter Try.func35, Try.ntmps35
  go_wp2
  go_ret
  exact ⟨rfl, rfl⟩
theorem flush_stop (h : Dk F w gd gt gs ct cs vp xs VT VS S) (hg : S.gone = false) (hk : S.ok = false) :
    Calls Try.prog 35 #[.pointer (some ⟨gd, 0, none⟩)] w fun e w' => e = .returned (.int .i64 4) ∧ Dk F w' gd gt gs ct cs vp xs VT VS S.begun ∧ Only (· = gd) w w' := by
  obtain ⟨c0, c1, c2, c3, c4⟩ := dvr h.box
  rw [hg] at c3
  have HG := Lib.hid (begin_any h hg)
  rw [hk] at HG
  clear h hg hk
  go_enter Try.func35, Try.ntmps35
  go_wp2_with (go_at_call 49; refine HG.out.mono ?_; rintro e w' ⟨rfl, hd, ho, _⟩; have HD := Lib.hid hd; have HO := Lib.hid ho; clear hd ho)
  go_ret
  exact ⟨rfl, HD.out, HO.out⟩
theorem Rw.nil {F : Nat → Prop} {gd gt gs : Nat} {vp : Value} {k : Nat} (h : Rw F gd gt gs vp k) : Rw F gd gt gs (.slice none 0 0) k := ⟨h.1, h.2.1, h.2.2.1, h.2.2.2.1, by simp [Value.ownBlock]⟩
/-- All that is pending is there. -/
theorem flush_fin {w1 w3 : World} {m : Nat} (hd : Dk F w1 gd gt gs ct cs vp xs VT VS S) (ho : Only (· = gd) w w1) (ho3 : Only (fun k => k = gd ∨ k = gt) w1 w3) (hth : w3.rowIs gt 35 ct (splV VT 0 m VS)) (hm : m = S.n)
    (hbox : w3.rowIs gd 75 5 (dv (.slice (some ⟨gt, 0, none⟩) S.n ct) (.slice (some ⟨gs, 0, none⟩) S.n cs) (.slice none 0 0) (.bool S.gone) (.int .i64 (S.left : Nat)))) : DPost F w w3 gd S.flushed := by
  subst hm
  have kb : ∀ k, Rw F gd gt gs vp k → k < w1.heap.size → w3.heap[k]? = w1.heap[k]? := fun k hk hl => ho3.block k hl (by rintro (e | e); exact hk.2.1 e; exact hk.2.2.1 e)
  refine ⟨F, ⟨gt, gs, ct, cs, .slice none 0 0, [], splV VT 0 S.n VS, VS, ?_⟩, (ho.mono ?_).trans (ho3.mono ?_), fun k hk => .inl hk⟩
  · exact {
      box := hbox
      th := hth
      se := ho3.rowIs hd.se (by rintro (e | e); exact hd.ds e.symm; exact hd.ts e.symm)
      pe := World.ownsRow_nil _ _ _ _
      hT := fun i hi => by
        have hi' : i < S.n := hi
        have e : splV VT 0 S.n VS i = VS i := by unfold splV; rw [if_pos ⟨by omega, by omega⟩, Nat.sub_zero]
        rw [e]
        exact (hd.hS i hi').keep kb fun k hk _ => hk.nil
      hS := fun i hi => (hd.hS i hi).keep kb fun k hk _ => hk.nil
      hP := rfl
      n1 := hd.n1
      n2 := hd.n2
      nt := hd.nt
      ns := hd.ns
      lf := hd.lf
      dt := hd.dt
      ds := hd.ds
      ts := hd.ts
      px := fun k hk => by simp [Value.ownBlock] at hk
      fd := hd.fd
      ft := hd.ft
      fs := hd.fs
      lt := fun k hk => Nat.lt_of_lt_of_le (hd.lt k hk) ho3.size }
  · rintro k rfl; exact hd.fd
  · rintro k (rfl | rfl)
    · exact hd.fd
    · exact hd.ft
set_option maxRecDepth 100000 in
set_option maxHeartbeats 2000000 in
theorem flush_ok (h : Dk F w gd gt gs ct cs vp xs VT VS S) (hg : S.gone = false) (hk : S.ok = true) :
    Calls Try.prog 35 #[.pointer (some ⟨gd, 0, none⟩)] w fun e w' => e = .returned (.int .i64 0) ∧ DPost F w w' gd S.begun.flushed := by
  obtain ⟨c0, c1, c2, c3, c4⟩ := dvr h.box
  rw [hg] at c3
  have HG := Lib.hid (begin_any h hg)
  rw [hk] at HG
  clear h hg hk
  go_enter Try.func35, Try.ntmps35
  go_wp2_with (go_at_call 49; refine HG.out.mono ?_; rintro e w1 ⟨rfl, hd, ho, _⟩; have HD := Lib.hid hd; have HO := Lib.hid ho; clear hd ho)
  have hbox := HD.out.box
  have HBX := Lib.hid hbox
  obtain ⟨d0, d1, d2, d3, d4⟩ := dvr hbox
  have QM := Lib.hid (show S.begun.n = Nat.min S.begun.n S.begun.n from (Nat.min_self _).symm)
  have QS := Lib.hid (show ∀ j, j < S.begun.n → w1.drew.cell? ((⟨gs, 0, none⟩ : Addr).add j) = some (VS j) from fun j hj => by
    rw [add_mk, Nat.zero_add]; exact HD.out.se.drew.cell (by have := HD.out.ns; omega))
  have QV := Lib.hid (show ∀ j, j < S.begun.n → (VS j).oneCell' = true from fun j hj => by
    obtain ⟨a, m, c, e⟩ := (HD.out.hS j hj).form
    rw [e]; rfl)
  have QF := Lib.hid (show 0 + S.begun.n ≤ ct from by have := HD.out.nt; omega)
  clear hbox c0 c1 c2 c3 c4
  go_region_law (
    refine step_copy_rowIs rfl (.tmp 15) (.tmp 19) 32 32 rfl 35 Try.underlying32 rows_size gt 0 S.begun.n ct ⟨gs, 0, none⟩ S.begun.n cs (by simp [Act.eval]) (by simp [Act.eval]) 35 ct VT HD.out.th.drew VS S.begun.n QM.out QS.out QV.out QF.out ?_
    intro w2 hth2 hg2 hs2)
  all_goals
    have HTH := Lib.hid (hth2.setOther (a := ⟨gd, 2, none⟩) (fun e => HD.out.dt e.symm) (.slice none 0 0))
    have hb2 := HBX.out.drew.of_block (hg2.block gd HBX.out.lt (fun e => by injection e with e; exact HD.out.dt e))
    have HB2 := Lib.hid (dv_set2 hb2 (.slice none 0 0))
    obtain ⟨e0, e1, e2, e3, e4⟩ := dvr hb2
    have z2 := hb2.frozen 2
    have HO2 := Lib.hid ((((Only.refl (F := fun k => k = gd ∨ k = gt) (w := w1)).drew).grown hg2 (fun k hk => by injection hk with hk; exact .inl (.inr hk.symm))).setCell (a := ⟨gd, 2, none⟩) (.inl (.inl rfl)) (.slice none 0 0))
    clear hth2 hg2 hs2 hb2 d0 d1 d2 d3 d4
    go_wp2
    go_ret
    exact ⟨rfl, flush_fin HD.out HO.out HO2.out HTH.out rfl HB2.out⟩
end
end Go.Proofs.Yteeomidlnijfbaa
