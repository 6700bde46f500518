/- What one round of a scan does to memory. -/
import Derived.Test.YtmcbmbcfgefocaaPNf
namespace Go.Proofs.Ytmcbmbcfgefocaa
open Go.RowKit Go.Shelf
set_option linter.unusedSimpArgs false
set_option linter.unusedVariables false

theorem fl_drewN (V : World) (n : Nat) : Fl V (V.drewN n) := fun _ _ h _ => h
theorem keep_marks {W W' : World} {D : Nat} {Ts : TypeId → Prop} {Bs : Nat → Prop} (h : Fr Ts Bs W W') {x : Option (List Deferred)} (hd : W.heap[D]? = some (.deferred x)) (hl : ∃ r, W.heap[D + 1]? = some (.loop r)) (hB : ∀ B, Bs B → ∃ c t m, W.heap[B]? = some (Obj.cells c t m)) : W'.heap[D]? = W.heap[D]? ∧ W'.heap[D + 1]? = W.heap[D + 1]? := by
  obtain ⟨r, hl⟩ := hl
  refine ⟨(h.block D _ hd (fun e => ?_) fun c t m e => by cases e).trans hd.symm, (h.block (D + 1) _ hl (fun e => ?_) fun c t m e => by cases e).trans hl.symm⟩
  · obtain ⟨c, t, m, a⟩ := hB _ e
    rw [hd] at a; cases a
  · obtain ⟨c, t, m, a⟩ := hB _ e
    rw [hl] at a; cases a
section
variable {T : Nat → Option (Nat → Nat)} {Q : QS} {w W W' : World} {gq B1 B2 B3 B4 B5 B6 B7 B8 Bi Bq D0 : Nat} {E L : Nat} {rs : List Rec} {v4 : Value} {ds : List Nat} {pre : List CellD} {v7 : Value} {x : CellD}
/-- What is told where no record follows. -/
theorem alien_fin (h : InS T Q w gq B1 B2 B3 B4 B5 B6 B7 Bi Bq E L rs v4 ds pre v7 W) (hn : w.heap.size ≤ B2 ∧ B2 < B3) (hH : Hist T Q E L rs) (hno : ∀ q, ¬ recP T Q.behind Q.gen E L q) (hd : W.heap[D0]? = some (.deferred (some []))) (hl : ∃ r, W.heap[D0 + 1]? = some (.loop r)) (k : Nat) :
    ((((W.drewN k).setCell ⟨B2, 0, none⟩ v4).setCell ⟨B3, 0, none⟩ (.int .i64 (E : Nat))).heap[D0]? = W.heap[D0]? ∧ (((W.drewN k).setCell ⟨B2, 0, none⟩ v4).setCell ⟨B3, 0, none⟩ (.int .i64 (E : Nat))).heap[D0 + 1]? = W.heap[D0 + 1]?) ∧
    ∃ rs' en, FinS T Q w B2 B3 (((W.drewN k).setCell ⟨B2, 0, none⟩ v4).setCell ⟨B3, 0, none⟩ (.int .i64 (E : Nat))) ds rs' en := by
  have hscn := hH.2.2.2 [] E L (.stop hno)
  rw [List.append_nil] at hscn
  have ho : OutS w gq B1 B2 B3 B4 B5 B6 (W.drewN k) E L rs v4 ds := h.out.fl (fl_drewN W k) (Below.drewN_ h.out.bel k)
  have hf := fin_set ho hn ⟨L, hscn⟩ (ds' := ds) ho.dfs
  refine ⟨keep_marks (Ts := fun _ => False) (Bs := fun b => b = B2 ∨ b = B3) (((Fr.refl.drewN k).set (.inl rfl) _).set (.inr rfl) _) hd hl ?_, rs, E, hf.fl (fun _ _ h _ => h) ⟨hf.bel.os, hf.bel.tape, hf.bel.output, hf.bel.size, hf.bel.block⟩⟩
  rintro b (rfl | rfl)
  · exact ⟨_, _, _, h.out.x2⟩
  · exact ⟨_, _, _, h.out.x3⟩
/-- What is gathered, in memory. -/
structure InM (T : Nat → Option (Nat → Nat)) (Q : QS) (w : World) (gq B1 B2 B3 B4 B5 B6 B7 Bi Bq : Nat) (E L : Nat) (rs : List Rec) (v4 : Value) (ds : List Nat) (pre : List CellD) (v7 : Value) (V : World) : Prop where
  out : OutS w gq B1 B2 B3 B4 B5 B6 V E L rs v4 ds
  x7 : Boxed V B7 114 v7
  own : OwnC V w.heap.size v7 pre.length (listX pre)
  xi : Boxed V Bi 3 (.int .i64 (E : Nat))
  xq : Boxed V Bq 54 (.pointer (some ⟨gq, 0, none⟩))
  pres : ∀ i D, pre[i]? = some D → PreD T Q.gen E L V i D
  le : E + pre.length ≤ Q.behind
theorem InM.fl {V V' : World} (h : InM T Q w gq B1 B2 B3 B4 B5 B6 B7 Bi Bq E L rs v4 ds pre v7 V) (k : Fl V V') (hb : Below w.heap.size w V') : InM T Q w gq B1 B2 B3 B4 B5 B6 B7 Bi Bq E L rs v4 ds pre v7 V' :=
  ⟨h.out.fl k hb, k.boxed h.x7, k.own h.own, k.boxed h.xi, k.boxed h.xq, fun i D hi => by
    obtain ⟨a, b⟩ := h.pres i D hi
    exact ⟨k.hasD a, b⟩, h.le⟩
theorem InM.ins {V : World} (h : InM T Q w gq B1 B2 B3 B4 B5 B6 B7 Bi Bq E L rs v4 ds pre v7 V) (non : ∀ q, 0 < q → q ≤ pre.length → ¬ joinP q (fun k => cellX (T (E + k)))) : InS T Q w gq B1 B2 B3 B4 B5 B6 B7 Bi Bq E L rs v4 ds pre v7 V := ⟨h.out, h.x7, h.own, h.xi, h.xq, h.pres, h.le, non⟩
theorem hasD_fr {V V' : World} {D : CellD} {Ts : TypeId → Prop} {Bs : Nat → Prop} (h : HasD V D) (k : Fr Ts Bs V V') (h8 : ¬ Ts 5) (hB : ∀ b, Bs b → ∃ t v, Boxed V b t v ∧ t ≠ 5) : HasD V' D := by
  have hn : ∀ g, (Value.slice D.A D.n D.c).ownBlock = some g → ¬ Bs g := fun g hg hb => by
    obtain ⟨t, v, a, b⟩ := hB g hb
    exact boxed_not8 h.2.2.2 a b g hg rfl
  exact ⟨k.rd8 h.1 h.2.2.2 (fun ad e => hn ad.block (by rw [e]; rfl)) h8, h.2.1, h.2.2.1, k.typ8 h.2.2.2 hn h8⟩
/-- A cell is put behind the others. -/
theorem ins_step1 {w1 : World} {v' : Value} {tmp : Obj} (h : InS T Q w gq B1 B2 B3 B4 B5 B6 B7 Bi Bq E L rs v4 ds pre v7 W) (hg : HasD W x ∧ cellB (T (E + pre.length)) = true ∧ sameX x (cellX (T (E + pre.length)))) (hlt : E + pre.length < Q.behind) (hbx : BoxH W B8 x.g x.s x.p x.q x.A x.n x.c) (hne : ∀ g, v7.ownBlock = some g → g ≠ B8) (hgen : x.g = Q.gen) (hL : L < x.s)
    (hown : w1.ownsRow w.heap.size 106 5 v' (pre.length + 1) (rowL (listX pre) pre.length ++ cellL x)) (hgrow : (W.alloc tmp).grownBy w1 v7.ownBlock) (hB7 : w.heap.size ≤ B7) (hd : W.heap[D0]? = some (.deferred (some []))) (hl : ∃ r, W.heap[D0 + 1]? = some (.loop r)) :
    InM T Q w gq B1 B2 B3 B4 B5 B6 B7 Bi Bq E L rs v4 ds (pre ++ [x]) v' (w1.setCell ⟨B7, 0, none⟩ v') ∧ BoxH (w1.setCell ⟨B7, 0, none⟩ v') B8 x.g x.s x.p x.q x.A x.n x.c ∧ ((w1.setCell ⟨B7, 0, none⟩ v').heap[D0]? = W.heap[D0]? ∧ (w1.setCell ⟨B7, 0, none⟩ v').heap[D0 + 1]? = W.heap[D0 + 1]?) ∧ Boxed w1 B7 114 v7 := by
  have hrowA : (W.alloc tmp).ownsRow w.heap.size 106 5 v7 pre.length (rowL (listX pre) pre.length) := World.ownsRow.alloc h.own tmp
  obtain ⟨hv1, hv2, hr2, hk2, hb2⟩ := h.x7.appended (by decide) h.own h.out.bel.size hB7 hown hgrow
  have hf0 : Fr (· = 106) (· = B7) W W := Fr.refl
  have hfr : Fr (· = 106) (· = B7) W (w1.setCell ⟨B7, 0, none⟩ v') := by exact ((hf0.alloc tmp).grown hrowA rfl hgrow).set rfl v'
  have hbel := h.out.bel.trans hb2
  have nb : ∀ {B : Nat} {t : TypeId} {v : Value}, Boxed W B t v → t ≠ 114 → ¬ B = B7 := fun hB ht e => by
    subst e
    have := (show W.heap[_]? = _ from hB).symm.trans h.x7
    simp at this
    exact ht this.2
  have h8 : ∀ b, b = B7 → ∃ t v, Boxed W b t v ∧ t ≠ 5 := fun b e => by subst e; exact ⟨_, _, h.x7, by decide⟩
  have hl8 := hbx.lt
  have hB87 : B8 ≠ B7 := fun e => by
    rw [e] at hbx
    have := (show W.heap[B7]? = _ from h.x7).symm.trans hbx
    simp at this
  refine ⟨⟨h.out.fr hfr hbel h.x7, hv2, ?_, hfr.boxed h.xi (nb h.xi (by decide)) (by decide), hfr.boxed h.xq (nb h.xq (by decide)) (by decide), fun i D hi => ?_, by rw [List.length_append, List.length_singleton]; omega⟩, ?_, keep_marks hfr hd hl (fun B e => by subst e; exact ⟨_, _, _, h.x7⟩), hv1⟩
  · show World.ownsRow _ _ _ _ _ _ _
    rw [List.length_append, List.length_singleton, rowL_succ, show listX (pre ++ [x]) pre.length = x from by rw [listX_snoc (by omega), if_neg (by omega)], rowL_congr pre.length (X := listX (pre ++ [x])) (Y := listX pre) fun i hi => by rw [listX_snoc (by omega), if_pos hi]]
    exact hr2
  · by_cases hip : i < pre.length
    · rw [List.getElem?_append_left hip] at hi
      obtain ⟨a, b⟩ := h.pres i D hi
      exact ⟨hasD_fr a hfr (by decide) h8, b⟩
    · have := (List.getElem?_eq_some_iff.1 hi).1
      simp at this
      obtain rfl : i = pre.length := by omega
      simp at hi
      subst hi
      exact ⟨hasD_fr hg.1 hfr (by decide) h8, hg.2.1, hg.2.2, by rw [← hg.2.2.1]; exact hgen, by rw [← hg.2.2.2.1]; exact hL⟩
  · refine (Below.heap_setCell w1 ⟨B7, 0, none⟩ v' B8 hB87).trans ((hgrow.block B8 (by simp; omega) fun e => ?_).trans ((Below.heap_alloc W tmp B8 hl8).trans hbx))
    exact hne B8 e.symm rfl
/-- The cells that were gathered, as a list in memory. -/
theorem InM.cells {V : World} {A : Option Addr} {c : Nat} (h : InM T Q w gq B1 B2 B3 B4 B5 B6 B7 Bi Bq E L rs v4 ds pre (.slice A pre.length c) V) : CellsAt V A pre.length (listX pre) :=
  OwnC.at_ h.own (fun i hi => (h.pres i _ (listX_get hi)).1.1) fun i hi => (h.pres i _ (listX_get hi)).1.2.1
theorem InM.same {V : World} (h : InM T Q w gq B1 B2 B3 B4 B5 B6 B7 Bi Bq E L rs v4 ds pre v7 V) : ∀ i, i < pre.length → sameX (listX pre i) ((fun k => cellX (T (E + k))) i) := fun i hi => (h.pres i _ (listX_get hi)).2.2.1
theorem InM.cells' {V : World} {A : Option Addr} {n c : Nat} (hn : pre.length = n) (h : InM T Q w gq B1 B2 B3 B4 B5 B6 B7 Bi Bq E L rs v4 ds pre (.slice A n c) V) : CellsAt V A n (listX pre) := by
  subst hn
  exact h.cells
theorem InM.last {V : World} (h : InM T Q w gq B1 B2 B3 B4 B5 B6 B7 Bi Bq E L rs v4 ds (pre ++ [x]) v7 V) (hj : joinP (pre.length + 1) (listX (pre ++ [x]))) : (cellX (T E)).s = x.s := by
  have h1 := (hj.2 pre.length (by omega)).2.2.2.2
  have h2 := (h.same 0 (by simp)).2.1
  rw [listX_snoc (by omega), if_neg (by omega)] at h1
  rw [h1]
  exact h2.symm
/-- They are a record. -/
theorem InM.rec_ {V : World} (h : InM T Q w gq B1 B2 B3 B4 B5 B6 B7 Bi Bq E L rs v4 ds pre v7 V) (hj : joinP pre.length (listX pre)) : recP T Q.behind Q.gen E L pre.length := by
  have h0 := h.pres 0 _ (listX_get hj.1)
  exact ⟨h.le, fun k hk => (h.pres k _ (listX_get hk)).2.1, (joinP_congr h.same).1 hj, h0.2.2.2.1, h0.2.2.2.2⟩
theorem InM.recR_ {V : World} (h : InM T Q w gq B1 B2 B3 B4 B5 B6 B7 Bi Bq E L rs v4 ds pre v7 V) (hj : joinP pre.length (listX pre)) {u : Value} (hu : Byt V u (joinN pre.length (listX pre) pre.length) (joinF (listX pre))) : Byt V u (recR T E pre.length).1 (recR T E pre.length).2 := by
  obtain ⟨h1, h2⟩ := join_same hj h.same
  obtain ⟨A, c, rfl, hc, hr, hf⟩ := hu
  have e : (recR T E pre.length).1 = joinN pre.length (listX pre) pre.length := h1.symm
  rw [e]
  exact ⟨A, c, rfl, hc, hr.congr fun j hj => h2 j hj, fun j hj => by show joinF (fun k => cellX (T (E + k))) j < 256; rw [← h2 j hj]; exact hf j hj⟩
theorem InM.hist {V : World} (h : InM T Q w gq B1 B2 B3 B4 B5 B6 B7 Bi Bq E L rs v4 ds (pre ++ [x]) v7 V) (hj : joinP (pre.length + 1) (listX (pre ++ [x]))) (hH : Hist T Q E L rs) : Hist T Q (E + (pre.length + 1)) x.s (rs ++ [recR T E (pre.length + 1)]) := by
  have e : (pre ++ [x]).length = pre.length + 1 := by simp
  have hr := h.rec_ (by rw [e]; exact hj)
  rw [e] at hr
  have hl := h.last hj
  obtain ⟨h1, h2, h3, h4⟩ := hH
  refine ⟨by omega, hr.1, by rw [List.length_append, List.length_singleton]; omega, fun rest en l hs => ?_⟩
  rw [List.append_assoc]
  exact h4 _ en l (.more hr (by rw [hl]; exact hs))
theorem InM.none_ {V : World} (h : InM T Q w gq B1 B2 B3 B4 B5 B6 B7 Bi Bq E L rs v4 ds (pre ++ [x]) v7 V) (hj : ¬ joinP (pre.length + 1) (listX (pre ++ [x]))) (hn : ∀ q, 0 < q → q ≤ pre.length → ¬ joinP q (fun k => cellX (T (E + k)))) : ∀ q, 0 < q → q ≤ (pre ++ [x]).length → ¬ joinP q (fun k => cellX (T (E + k))) := fun q h0 h1 hq => by
  have e : (pre ++ [x]).length = pre.length + 1 := by simp
  by_cases h2 : q ≤ pre.length
  · exact hn q h0 h2 hq
  · have e2 : q = pre.length + 1 := by omega
    subst e2
    exact hj ((joinP_congr fun i hi => h.same i (by rw [e]; exact hi)).2 hq)
theorem row_info : (Try.prog.info? 35).map (fun i => (i.zero, i.size, i.bytes)) = some (some (.slice none 0 0), 1, 24) := by kernel_rfl
/-- A record is put behind the others. -/
theorem out_step2 {w1 : World} {v' u : Value} {tmp : Obj} {vs : List Value} {r : Rec} (h : InM T Q w gq B1 B2 B3 B4 B5 B6 B7 Bi Bq E L rs v4 ds pre v7 W) (hbx : BoxH W B8 x.g x.s x.p x.q x.A x.n x.c)
    (hvs : W.ownsRow w.heap.size 35 1 v4 rs.length vs) (hrows : ∀ (i : Nat) (r : Rec), rs[i]? = some r → ∃ u, vs[i]? = some u ∧ Byt W u r.1 r.2 ∧ Typ8 W u) (hu : Byt W u r.1 r.2 ∧ Typ8 W u)
    (hown : w1.ownsRow w.heap.size 35 1 v' (rs.length + 1) (vs ++ [u])) (hgrow : (W.alloc tmp).grownBy w1 v4.ownBlock) (hB4 : w.heap.size ≤ B4) (n2 : ¬ B2 = B4) (hd : W.heap[D0]? = some (.deferred (some []))) (hl : ∃ r, W.heap[D0 + 1]? = some (.loop r)) :
    OutS w gq B1 B2 B3 B4 B5 B6 (w1.setCell ⟨B4, 0, none⟩ v') E L (rs ++ [r]) v' ds ∧ BoxH (w1.setCell ⟨B4, 0, none⟩ v') B8 x.g x.s x.p x.q x.A x.n x.c ∧ Boxed (w1.setCell ⟨B4, 0, none⟩ v') B7 114 v7 ∧ ((w1.setCell ⟨B4, 0, none⟩ v').heap[D0]? = W.heap[D0]? ∧ (w1.setCell ⟨B4, 0, none⟩ v').heap[D0 + 1]? = W.heap[D0 + 1]?) ∧ Boxed w1 B4 33 v4 := by
  have ho := h.out
  have hrowA := World.ownsRow.alloc hvs tmp
  obtain ⟨hv1, hv2, hr2, hk2, hb2⟩ := ho.x4.appended (by decide) hvs ho.bel.size hB4 hown hgrow
  have hf0 : Fr (· = 35) (· = B4) W W := Fr.refl
  have hfr : Fr (· = 35) (· = B4) W (w1.setCell ⟨B4, 0, none⟩ v') := by exact ((hf0.alloc tmp).grown hrowA rfl hgrow).set rfl v'
  have nb : ∀ {B : Nat} {t : TypeId} {v : Value}, Boxed W B t v → t ≠ 33 → ¬ B = B4 := fun hB ht e => by
    subst e
    have := (show W.heap[_]? = _ from hB).symm.trans ho.x4
    simp at this
    exact ht this.2
  have h8 : ∀ {u : Value}, Typ8 W u → ∀ g, u.ownBlock = some g → ¬ g = B4 := fun ht g hg e => boxed_not8 ht ho.x4 (by decide) g hg e
  have hB84 : B8 ≠ B4 := fun e => by
    rw [e] at hbx
    have := (show W.heap[B4]? = _ from ho.x4).symm.trans hbx
    simp at this
  refine ⟨⟨ho.bel.trans hb2, hfr.boxed ho.x1 (nb ho.x1 (by decide)) (by decide), hfr.boxed ho.x2 n2 (by decide), hfr.boxed ho.x3 (nb ho.x3 (by decide)) (by decide), hv2, ?_, hfr.boxed ho.x5 (nb ho.x5 (by decide)) (by decide), hfr.boxed ho.x6 (nb ho.x6 (by decide)) (by decide), fun D hD => hfr.obj (ho.dfs D hD) (fun e => by
    have := ho.dfs D hD
    rw [e, show W.heap[B4]? = _ from ho.x4] at this
    cases this), ho.nd, ho.dge, ho.lim⟩, hfr.block _ _ hbx hB84 (fun c t m e => by cases e; decide), hfr.boxed h.x7 (nb h.x7 (by decide)) (by decide), keep_marks hfr hd hl (fun B e => by subst e; exact ⟨_, _, _, ho.x4⟩), hv1⟩
  have hlen : vs.length = rs.length := by have := hvs.1; omega
  exact RecsAt.snoc (w := W) (v := v4) hr2 hlen (fun i r hi => by
    obtain ⟨u, a, b, c⟩ := hrows i r hi
    exact ⟨u, a, byt_typ hfr b c (h8 c) (by decide)⟩) (byt_typ hfr hu.1 hu.2 (h8 hu.2) (by decide))
/-- The end, and the last number, are the next. -/
theorem out_step3 {E' L' : Nat} (h : OutS w gq B1 B2 B3 B4 B5 B6 W E L rs v4 ds) (hb : w.heap.size ≤ B5 ∧ B5 < B6) (n3 : ¬ B3 = B5) (hL : L' < 4294967296) (k : Nat) (hd : W.heap[D0]? = some (.deferred (some []))) (hl : ∃ r, W.heap[D0 + 1]? = some (.loop r)) :
    OutS w gq B1 B2 B3 B4 B5 B6 (((W.drewN k).setCell ⟨B5, 0, none⟩ (.int .i64 (E' : Nat))).setCell ⟨B6, 0, none⟩ (.int .u32 (L' : Nat))) E' L' rs v4 ds ∧ ((((W.drewN k).setCell ⟨B5, 0, none⟩ (.int .i64 (E' : Nat))).setCell ⟨B6, 0, none⟩ (.int .u32 (L' : Nat))).heap[D0]? = W.heap[D0]? ∧ (((W.drewN k).setCell ⟨B5, 0, none⟩ (.int .i64 (E' : Nat))).setCell ⟨B6, 0, none⟩ (.int .u32 (L' : Nat))).heap[D0 + 1]? = W.heap[D0 + 1]?) := by
  have hf0 : Fr (fun _ => False) (fun b => b = B5 ∨ b = B6) W (W.drewN k) := Fr.refl.drewN k
  have hfr : Fr (fun _ => False) (fun b => b = B5 ∨ b = B6) W (((W.drewN k).setCell ⟨B5, 0, none⟩ (.int .i64 (E' : Nat))).setCell ⟨B6, 0, none⟩ (.int .u32 (L' : Nat))) := by exact (hf0.set (.inl rfl) _).set (.inr rfl) _
  have nb : ∀ {B : Nat} {t : TypeId} {v : Value}, Boxed W B t v → ¬ B = B5 → t ≠ 31 → ¬ (B = B5 ∨ B = B6) := fun hB h5 ht e => by
    rcases e with e | e
    · exact h5 e
    · subst e
      have := (show W.heap[_]? = _ from hB).symm.trans h.x6
      simp at this
      exact ht this.2
  have nb5 : ∀ {B : Nat} {t : TypeId} {v : Value}, Boxed W B t v → t ≠ 3 → ¬ B = B5 := fun hB ht e => by
    subst e
    have := (show W.heap[_]? = _ from hB).symm.trans h.x5
    simp at this
    exact ht this.2
  have hBs : ∀ b, b = B5 ∨ b = B6 → ∃ t v, Boxed W b t v ∧ t ≠ 5 ∧ t ≠ 35 := fun b e => by
    rcases e with rfl | rfl
    · exact ⟨_, _, h.x5, by decide, by decide⟩
    · exact ⟨_, _, h.x6, by decide, by decide⟩
  have y5 : Boxed ((W.drewN k).setCell ⟨B5, 0, none⟩ (.int .i64 (E' : Nat))) B5 3 (.int .i64 (E' : Nat)) := Boxed.set _ (show Boxed (W.drewN k) B5 3 (.int .i64 (E : Nat)) from h.x5)
  have y6 : Boxed ((W.drewN k).setCell ⟨B5, 0, none⟩ (.int .i64 (E' : Nat))) B6 31 (.int .u32 (L : Nat)) := (Below.heap_setCell (W.drewN k) ⟨B5, 0, none⟩ _ B6 (by show B6 ≠ B5; omega)).trans h.x6
  refine ⟨⟨hfr.belowW h.bel (fun _ _ _ _ _ => id) (by rintro b (rfl | rfl) <;> omega), hfr.boxed h.x1 (nb h.x1 (nb5 h.x1 (by decide)) (by decide)) id, hfr.boxed h.x2 (nb h.x2 (nb5 h.x2 (by decide)) (by decide)) id, hfr.boxed h.x3 (nb h.x3 n3 (by decide)) id, hfr.boxed h.x4 (nb h.x4 (nb5 h.x4 (by decide)) (by decide)) id,
    h.recs.fr hfr id id (fun g hg => by
      obtain ⟨t, v, a, b, c⟩ := hBs g hg
      exact boxed_other a b c), (Below.heap_setCell _ ⟨B6, 0, none⟩ _ B5 (by show B5 ≠ B6; omega)).trans y5, y6.set _, fun D hD => hfr.obj (h.dfs D hD) (fun e => by
      obtain ⟨t, v, a, _⟩ := hBs D e
      have := h.dfs D hD
      rw [show W.heap[D]? = _ from a] at this
      cases this), h.nd, h.dge, hL⟩, keep_marks hfr hd hl fun b e => ?_⟩
  obtain ⟨t, v, a, _⟩ := hBs b e
  exact ⟨_, _, _, a⟩
end
end Go.Proofs.Ytmcbmbcfgefocaa
