/- What the loops of a scan carry. -/
import Derived.Test.YtmcbmbcfgefocaaPNe
namespace Go.Proofs.Ytmcbmbcfgefocaa
open Go.RowKit Go.Shelf
set_option linter.unusedSimpArgs false
set_option linter.unusedVariables false

/-- All that is no loop's record has stayed. -/
def Fl (V V' : World) : Prop := ∀ (k : Nat) (o : Obj), V.heap[k]? = some o → (∀ r, o ≠ Obj.loop r) → V'.heap[k]? = some o
section
variable {V V' : World}
theorem fl_below (h : Below V.heap.size V V') : Fl V V' := fun k o hk _ => (h.block k (Array.getElem?_eq_some_iff.1 hk).1).trans hk
theorem fl_put {l : Nat} {r : Loop} (h : V.heap[l]? = some (.loop r)) (o : Obj) : Fl V (V.putObj l o) := fun k o' hk hn => by
  rw [World.putObj_heap_other (fun e => by rw [e, h] at hk; injection hk with hk; exact hn r hk.symm)]
  exact hk
theorem Fl.boxed (k : Fl V V') {B : Nat} {t : TypeId} {v : Value} (h : Boxed V B t v) : Boxed V' B t v := k _ _ h fun r e => by cases e
theorem Fl.own (k : Fl V V') {base n size : Nat} {e : TypeId} {v : Value} {xs : List Value} (h : V.ownsRow base e size v n xs) : V'.ownsRow base e size v n xs := by
  refine ⟨h.1, ?_⟩
  rcases h.2 with hn | ⟨g, c, cur, rfl, h1, h2, r⟩
  · exact .inl hn
  · exact .inr ⟨g, c, cur, rfl, h1, k _ _ h2 fun r e => (by cases e), r⟩
theorem Fl.typ8 (k : Fl V V') {v : Value} (h : Typ8 V v) : Typ8 V' v := fun g hg => by
  obtain ⟨cs, m, a⟩ := h g hg
  exact ⟨cs, m, k _ _ a fun r e => by cases e⟩
theorem Fl.rd (k : Fl V V') {K : IntKind} {A : Option Addr} {n : Nat} {f : Nat → Nat} (h : Rd K V A n f) : Rd K V' A n f := fun j hj => by
  obtain ⟨ad, e, hc⟩ := h j hj
  refine ⟨ad, e, (World.cell?_of_block ?_).trans hc⟩
  have hl := block_lt_of_cell hc
  have ho : V.heap[(ad.add j).block]? = some V.heap[(ad.add j).block] := Array.getElem?_eq_getElem hl
  rw [ho]
  refine k _ _ ho fun r e2 => ?_
  rw [e2] at ho
  rw [World.cell?, ho] at hc
  cases hc
theorem Fl.hasD (k : Fl V V') {D : CellD} (h : HasD V D) : HasD V' D := ⟨k.rd h.1, h.2.1, h.2.2.1, k.typ8 h.2.2.2⟩
theorem Fl.boxH (k : Fl V V') {b g s : Nat} {p q : Int} {A : Option Addr} {n c : Nat} (h : BoxH V b g s p q A n c) : BoxH V' b g s p q A n c := k _ _ h fun r e => by cases e
theorem Fl.byt (k : Fl V V') {u : Value} {n : Nat} {f : Nat → Nat} (h : Byt V u n f) : Byt V' u n f := by
  obtain ⟨A, c, h1, h2, h3, h4⟩ := h
  exact ⟨A, c, h1, h2, k.rd h3, h4⟩
theorem Fl.recs (k : Fl V V') {base : Nat} {v : Value} {rs : List Rec} (h : RecsAt V base v rs) : RecsAt V' base v rs := by
  obtain ⟨vs, h1, h2⟩ := h
  refine ⟨vs, k.own h1, fun i r hr => ?_⟩
  obtain ⟨u, a, b, c⟩ := h2 i r hr
  exact ⟨u, a, k.byt b, k.typ8 c⟩
theorem Fl.defer (k : Fl V V') {D : Nat} {ds : Option (List Deferred)} (h : V.heap[D]? = some (.deferred ds)) : V'.heap[D]? = some (.deferred ds) := k _ _ h fun r e => by cases e
end
/-- So far the records are these. -/
def Hist (T : Nat → Option (Nat → Nat)) (Q : QS) (E L : Nat) (rs : List Rec) : Prop := Q.first ≤ E ∧ E ≤ Q.behind ∧ rs.length ≤ E ∧ ∀ rest e l, Scn T Q.behind Q.gen E L rest e l → Scn T Q.behind Q.gen Q.first 0 (rs ++ rest) e l
structure OutS (w : World) (gq B1 B2 B3 B4 B5 B6 : Nat) (V : World) (E L : Nat) (rs : List Rec) (v4 : Value) (ds : List Nat) : Prop where
  bel : Below w.heap.size w V
  x1 : Boxed V B1 54 (.pointer (some ⟨gq, 0, none⟩))
  x2 : Boxed V B2 33 (.slice none 0 0)
  x3 : Boxed V B3 3 (.int .i64 0)
  x4 : Boxed V B4 33 v4
  recs : RecsAt V w.heap.size v4 rs
  x5 : Boxed V B5 3 (.int .i64 (E : Nat))
  x6 : Boxed V B6 31 (.int .u32 (L : Nat))
  dfs : ∀ D ∈ ds, V.heap[D]? = some (.deferred (some []))
  nd : ds.Nodup
  dge : ∀ D ∈ ds, w.heap.size ≤ D
  lim : L < 4294967296
theorem OutS.fl {w V V' : World} {gq B1 B2 B3 B4 B5 B6 E L : Nat} {rs : List Rec} {v4 : Value} {ds : List Nat} (h : OutS w gq B1 B2 B3 B4 B5 B6 V E L rs v4 ds) (k : Fl V V') (hb : Below w.heap.size w V') : OutS w gq B1 B2 B3 B4 B5 B6 V' E L rs v4 ds :=
  ⟨hb, k.boxed h.x1, k.boxed h.x2, k.boxed h.x3, k.boxed h.x4, k.recs h.recs, k.boxed h.x5, k.boxed h.x6, fun D hD => k.defer (h.dfs D hD), h.nd, h.dge, h.lim⟩
/-- The body of a round turns its list of cells, and its box. -/
theorem OutS.fr {w V V' : World} {gq B1 B2 B3 B4 B5 B6 B7 E L : Nat} {rs : List Rec} {v4 v7 : Value} {ds : List Nat} (h : OutS w gq B1 B2 B3 B4 B5 B6 V E L rs v4 ds) (k : Fr (· = 106) (· = B7) V V') (hb : Below w.heap.size w V') (h7 : Boxed V B7 114 v7) : OutS w gq B1 B2 B3 B4 B5 B6 V' E L rs v4 ds := by
  have ne : ∀ {B : Nat} {t : TypeId} {v : Value}, Boxed V B t v → t ≠ 114 → ¬ B = B7 := fun hB ht e => by
    subst e
    have := (show V.heap[_]? = _ from hB).symm.trans h7
    simp at this
    exact ht this.2
  refine ⟨hb, k.boxed h.x1 (ne h.x1 (by decide)) (by decide), k.boxed h.x2 (ne h.x2 (by decide)) (by decide), k.boxed h.x3 (ne h.x3 (by decide)) (by decide), k.boxed h.x4 (ne h.x4 (by decide)) (by decide), ?_, k.boxed h.x5 (ne h.x5 (by decide)) (by decide), k.boxed h.x6 (ne h.x6 (by decide)) (by decide), fun D hD => k.obj (h.dfs D hD) (fun e => ?_), h.nd, h.dge, h.lim⟩
  · refine h.recs.fr k (by decide) (by decide) fun g hg => ?_
    obtain rfl : g = B7 := hg
    exact boxed_other h7 (by decide) (by decide)
  · have := h.dfs D hD
    rw [e, show V.heap[B7]? = _ from h7] at this
    cases this
/-- What has been told. -/
structure FinS (T : Nat → Option (Nat → Nat)) (Q : QS) (w : World) (B2 B3 : Nat) (V : World) (ds : List Nat) (rs : List Rec) (e : Nat) : Prop where
  bel : Below w.heap.size w V
  x2 : ∃ v, Boxed V B2 33 v ∧ RecsAt V w.heap.size v rs
  x3 : Boxed V B3 3 (.int .i64 (e : Nat))
  dfs : ∀ D ∈ ds, V.heap[D]? = some (.deferred (some []))
  scn : ∃ l, Scn T Q.behind Q.gen Q.first 0 rs e l
theorem FinS.fl {T : Nat → Option (Nat → Nat)} {Q : QS} {w V V' : World} {B2 B3 : Nat} {ds : List Nat} {rs : List Rec} {e : Nat} (h : FinS T Q w B2 B3 V ds rs e) (k : Fl V V') (hb : Below w.heap.size w V') : FinS T Q w B2 B3 V' ds rs e := by
  obtain ⟨v, h1, h2⟩ := h.x2
  exact ⟨hb, ⟨v, k.boxed h1, k.recs h2⟩, k.boxed h.x3, fun D hD => k.defer (h.dfs D hD), h.scn⟩
def listX (pre : List CellD) : Nat → CellD := fun i => pre.getD i zeroD
/-- A cell of the record that is being gathered. -/
def PreD (T : Nat → Option (Nat → Nat)) (gen E L : Nat) (V : World) (i : Nat) (D : CellD) : Prop := HasD V D ∧ cellB (T (E + i)) = true ∧ sameX D (cellX (T (E + i))) ∧ (cellX (T (E + i))).g = gen ∧ L < (cellX (T (E + i))).s
structure InS (T : Nat → Option (Nat → Nat)) (Q : QS) (w : World) (gq B1 B2 B3 B4 B5 B6 B7 Bi Bq : Nat) (E L : Nat) (rs : List Rec) (v4 : Value) (ds : List Nat) (pre : List CellD) (v7 : Value) (V : World) : Prop where
  out : OutS w gq B1 B2 B3 B4 B5 B6 V E L rs v4 ds
  x7 : Boxed V B7 114 v7
  own : OwnC V w.heap.size v7 pre.length (listX pre)
  xi : Boxed V Bi 3 (.int .i64 (E : Nat))
  xq : Boxed V Bq 54 (.pointer (some ⟨gq, 0, none⟩))
  pres : ∀ i D, pre[i]? = some D → PreD T Q.gen E L V i D
  le : E + pre.length ≤ Q.behind
  non : ∀ q, 0 < q → q ≤ pre.length → ¬ joinP q (fun k => cellX (T (E + k)))
section
variable {T : Nat → Option (Nat → Nat)} {Q : QS} {w V V' : World} {gq B1 B2 B3 B4 B5 B6 B7 Bi Bq : Nat} {E L : Nat} {rs : List Rec} {v4 : Value} {ds : List Nat} {pre : List CellD} {v7 : Value}
theorem InS.fl (h : InS T Q w gq B1 B2 B3 B4 B5 B6 B7 Bi Bq E L rs v4 ds pre v7 V) (k : Fl V V') (hb : Below w.heap.size w V') : InS T Q w gq B1 B2 B3 B4 B5 B6 B7 Bi Bq E L rs v4 ds pre v7 V' :=
  ⟨h.out.fl k hb, k.boxed h.x7, k.own h.own, k.boxed h.xi, k.boxed h.xq, fun i D hi => by
    obtain ⟨a, b⟩ := h.pres i D hi
    exact ⟨k.hasD a, b⟩, h.le, h.non⟩
theorem listX_snoc {x : CellD} {i : Nat} (hi : i < pre.length + 1) : listX (pre ++ [x]) i = if i < pre.length then listX pre i else x := by
  unfold listX
  split
  · rename_i h
    simp [List.getElem?_append_left h]
  · obtain rfl : i = pre.length := by omega
    simp
theorem listX_get {i : Nat} (hi : i < pre.length) : pre[i]? = some (listX pre i) := by
  unfold listX
  simp [hi]
/-- Whether cells join hangs on what they say alone. -/
theorem joinP_congr {n : Nat} {X Y : Nat → CellD} (h : ∀ i, i < n → sameX (X i) (Y i)) : joinP n X ↔ joinP n Y := by
  unfold joinP joinB
  constructor
  · rintro ⟨h0, hj⟩
    refine ⟨h0, fun i hi => ?_⟩
    obtain ⟨a1, a2, a3, a4, a5, _⟩ := h i hi
    obtain ⟨b1, b2, _⟩ := h 0 h0
    have := hj i hi
    rw [a1, a2, a3, a4, a5, b1, b2] at this
    exact this
  · rintro ⟨h0, hj⟩
    refine ⟨h0, fun i hi => ?_⟩
    obtain ⟨a1, a2, a3, a4, a5, _⟩ := h i hi
    obtain ⟨b1, b2, _⟩ := h 0 h0
    rw [a1, a2, a3, a4, a5, b1, b2]
    exact hj i hi
theorem join_same {n : Nat} {X Y : Nat → CellD} (hj : joinP n X) (h : ∀ i, i < n → sameX (X i) (Y i)) : joinN n X n = joinN n Y n ∧ ∀ j, j < joinN n X n → joinF X j = joinF Y j := by
  have h0 := hj.1
  have e : joinN n X n = joinN n Y n := by
    rw [joinN, joinN, if_neg (by omega), if_neg (by omega), (h (n - 1) (by omega)).2.2.2.2.1]
  refine ⟨e, fun j hlt => ?_⟩
  rw [joinN, if_neg (by omega)] at hlt
  have hf := join_few (hj.2 (n - 1) (by omega))
  have hi : j / 49 < n := by omega
  unfold joinF
  rw [(h (j / 49) hi).2.2.2.2.2]
end
theorem results_two {fn : Func} (h : fn.results = #[.cell 2 33, .cell 3 3]) {tmps : Array Value} {w : World} {B2 B3 : Nat} {A : Option Addr} {n c : Nat} {k : Int} (h2 : tmps.getD 2 undef = .pointer (some ⟨B2, 0, none⟩)) (h3 : tmps.getD 3 undef = .pointer (some ⟨B3, 0, none⟩)) (c2 : w.cell? ⟨B2, 0, none⟩ = some (.slice A n c)) (c3 : w.cell? ⟨B3, 0, none⟩ = some (.int .i64 k)) :
    (results fn tmps).run Try.prog w = .ok (.tuple #[.slice A n c, .int .i64 k]) w := by
  have l2 := block_lt_of_cell c2
  have l3 := block_lt_of_cell c3
  simp only [results, h]
  simp at h2 h3
  simp [Sem.run_bind, Result.andThen, h2, h3]
  go_simp
def RecPost (T : Nat → Option (Nat → Nat)) (Q : QS) (w w' : World) (e : Ending) : Prop :=
  (∃ rs en v, e = .returned (.tuple #[v, .int .i64 (en : Nat)]) ∧ RecsAt w' w.heap.size v rs ∧ (∃ l, Scn T Q.behind Q.gen Q.first 0 rs en l)) ∧ Below w.heap.size w w'
theorem RecsAt.form {w : World} {base : Nat} {v : Value} {rs : List Rec} (h : RecsAt w base v rs) : ∃ A c, v = .slice A rs.length c := by
  obtain ⟨vs, h1, _⟩ := h
  rcases h1.2 with ⟨rfl, h0⟩ | ⟨g, c, _, rfl, _⟩
  · exact ⟨none, 0, by rw [h0]⟩
  · exact ⟨_, c, rfl⟩
theorem fin_leave {T : Nat → Option (Nat → Nat)} {Q : QS} {w V : World} {B2 B3 : Nat} {ds : List Nat} {rs : List Rec} {en : Nat} {F : Fence} {n : Nat} {fn : Func} {tmps : Array Value} (hfn : fn.results = #[.cell 2 33, .cell 3 3]) (h2 : tmps.getD 2 undef = .pointer (some ⟨B2, 0, none⟩)) (h3 : tmps.getD 3 undef = .pointer (some ⟨B3, 0, none⟩))
    (h : FinS T Q w B2 B3 V ds rs en) (hnd : ds.Nodup) (hge : ∀ D ∈ ds, w.heap.size ≤ D) : LeavesInM F n Try.prog fn tmps (fun e w' => RecPost T Q w w' e) (ds.map markD) .returning V := by
  refine marks_leave ds V h.dfs hnd fun w' ho hs => ?_
  have hfr : Fr (fun _ => False) (· ∈ ds) V w' := ⟨ho.os, ho.tape, ho.output, ho.size, fun k o h1 h2 _ => (ho.block k (Array.getElem?_eq_some_iff.1 h1).1 h2).trans h1⟩
  have hno : ∀ {B : Nat} {t : TypeId} {v : Value}, Boxed V B t v → ¬ B ∈ ds := fun hb hm => by
    have := h.dfs _ hm
    rw [show V.heap[_]? = _ from hb] at this
    cases this
  obtain ⟨v, hv, hr⟩ := h.x2
  have hv' := hfr.boxed hv (hno hv) id
  have h3' := hfr.boxed h.x3 (hno h.x3) id
  have hr' := hr.fr hfr id id fun g hg c m => by
    rw [h.dfs g hg]
    exact ⟨(fun e => by cases e), (fun e => by cases e)⟩
  obtain ⟨A, c, rfl⟩ := hr.form
  exact ⟨_, results_two hfn h2 h3 hv'.cell h3'.cell, ⟨rs, en, _, rfl, hr', h.scn⟩, h.bel.trans (ho.below h.bel.size fun k hk => hge k hk)⟩
theorem fin_set {T : Nat → Option (Nat → Nat)} {Q : QS} {w W : World} {gq B1 B2 B3 B4 B5 B6 E L : Nat} {rs : List Rec} {v4 : Value} {ds : List Nat} (h : OutS w gq B1 B2 B3 B4 B5 B6 W E L rs v4 ds) (hn : w.heap.size ≤ B2 ∧ B2 < B3) (hs : ∃ l, Scn T Q.behind Q.gen Q.first 0 rs E l) {ds' : List Nat} (hd : ∀ D ∈ ds', W.heap[D]? = some (.deferred (some []))) :
    FinS T Q w B2 B3 ((W.setCell ⟨B2, 0, none⟩ v4).setCell ⟨B3, 0, none⟩ (.int .i64 (E : Nat))).drew ds' rs E := by
  have hfr : Fr (fun _ => False) (fun k => k = B2 ∨ k = B3) W ((W.setCell ⟨B2, 0, none⟩ v4).setCell ⟨B3, 0, none⟩ (.int .i64 (E : Nat))).drew := ((Fr.refl.set (.inl rfl) _).set (.inr rfl) _).drew
  have hb : Below w.heap.size w ((W.setCell ⟨B2, 0, none⟩ v4).setCell ⟨B3, 0, none⟩ (.int .i64 (E : Nat))).drew := hfr.belowW h.bel (fun _ _ _ _ _ => id) (by rintro k (rfl | rfl) <;> omega)
  have x2 : Boxed (W.setCell ⟨B2, 0, none⟩ v4) B2 33 v4 := h.x2.set v4
  have x3 : Boxed (W.setCell ⟨B2, 0, none⟩ v4) B3 3 (.int .i64 0) := (Below.heap_setCell W ⟨B2, 0, none⟩ v4 B3 (by show B3 ≠ B2; omega)).trans h.x3
  have hr := h.recs.fr hfr id id (by
    rintro g (rfl | rfl)
    · exact boxed_other h.x2 (by decide) (by decide)
    · exact boxed_other h.x3 (by decide) (by decide))
  refine ⟨hb, ⟨v4, (Below.heap_setCell _ ⟨B3, 0, none⟩ _ B2 (by show B2 ≠ B3; omega)).trans x2, hr⟩, x3.set _, fun D hD => ?_, hs⟩
  have hd1 := hd D hD
  refine hfr.obj hd1 ?_
  rintro (rfl | rfl)
  · rw [show W.heap[_]? = _ from h.x2] at hd1; cases hd1
  · rw [show W.heap[_]? = _ from h.x3] at hd1; cases hd1
end Go.Proofs.Ytmcbmbcfgefocaa
