/- Frames by the types of blocks; lists of rows; what the loops of a scan carry. -/
import Derived.Test.YteeomidlnijfbaaPKt
namespace Go.Proofs.Yteeomidlnijfbaa
open Go.RowKit Go.Shelf
set_option linter.unusedSimpArgs false
set_option linter.unusedVariables false

/-- Of what there was only blocks of the types Ts, and the blocks Bs, may have turned. -/
structure Fr (Ts : TypeId → Prop) (Bs : Nat → Prop) (w w' : World) : Prop where
  os : w'.os = w.os
  tape : w'.tape = w.tape
  output : w'.output = w.output
  size : w.heap.size ≤ w'.heap.size
  block : ∀ k o, w.heap[k]? = some o → ¬ Bs k → (∀ c t m, o = .cells c t m → ¬ Ts t) → w'.heap[k]? = some o
section
variable {Ts : TypeId → Prop} {Bs : Nat → Prop} {w w' w'' : World}
theorem Fr.refl : Fr Ts Bs w w := ⟨rfl, rfl, rfl, Nat.le_refl _, fun _ _ h _ _ => h⟩
theorem Fr.trans (h : Fr Ts Bs w w') (k : Fr Ts Bs w' w'') : Fr Ts Bs w w'' := ⟨k.os.trans h.os, k.tape.trans h.tape, k.output.trans h.output, Nat.le_trans h.size k.size, fun i o h1 h2 h3 => k.block i o (h.block i o h1 h2 h3) h2 h3⟩
theorem Fr.of_below (h : Below w.heap.size w w') : Fr Ts Bs w w' := ⟨h.os, h.tape, h.output, h.size, fun k o h1 _ _ => (h.block k (Array.getElem?_eq_some_iff.1 h1).1).trans h1⟩
theorem Fr.below (h : Fr Ts Bs w w') (k : Below w'.heap.size w' w'') : Fr Ts Bs w w'' := h.trans (.of_below k)
theorem Fr.set (h : Fr Ts Bs w w') {B i : Nat} (hB : Bs B) (v : Value) : Fr Ts Bs w (w'.setCell ⟨B, i, none⟩ v) :=
  ⟨h.os, h.tape, h.output, by simpa [World.setCell] using h.size, fun k o h1 h2 h3 => (Below.heap_setCell w' ⟨B, i, none⟩ v k (fun e => h2 (by rw [e]; exact hB))).trans (h.block k o h1 h2 h3)⟩
theorem Fr.alloc (h : Fr Ts Bs w w') (o : Obj) : Fr Ts Bs w (w'.alloc o) := h.below (below_new _ _)
theorem Fr.grown (h : Fr Ts Bs w w') {base size k : Nat} {e : TypeId} {v : Value} {xs : List Value} (hr : w'.ownsRow base e size v k xs) (he : Ts e) (hg : w'.grownBy w'' v.ownBlock) : Fr Ts Bs w w'' :=
  ⟨hg.os.trans h.os, hg.tape.trans h.tape, hg.output.trans h.output, Nat.le_trans h.size hg.size, fun j o h1 h2 h3 => by
    have h4 := h.block j o h1 h2 h3
    refine (hg.block j (Array.getElem?_eq_some_iff.1 h4).1 fun e' => ?_).trans h4
    rcases hr.2 with ⟨rfl, _⟩ | ⟨g, cap, cur, rfl, _, hgb, _⟩
    · cases e'
    · have : j = g := by simpa [Value.ownBlock] using e'
      subst this
      rw [hgb] at h4
      injection h4 with h4
      exact h3 _ _ _ h4.symm he⟩
theorem Fr.drew (h : Fr Ts Bs w w') : Fr Ts Bs w w'.drew := ⟨h.os, h.tape, h.output, h.size, h.block⟩
theorem Fr.drewN (h : Fr Ts Bs w w') (n : Nat) : Fr Ts Bs w (w'.drewN n) := ⟨h.os, h.tape, h.output, h.size, h.block⟩
theorem Fr.mono {Ts' : TypeId → Prop} {Bs' : Nat → Prop} (h : Fr Ts Bs w w') (ht : ∀ t, Ts t → Ts' t) (hb : ∀ k, Bs k → Bs' k) : Fr Ts' Bs' w w' := ⟨h.os, h.tape, h.output, h.size, fun k o h1 h2 h3 => h.block k o h1 (fun e => h2 (hb k e)) fun c t m e e2 => h3 c t m e (ht t e2)⟩
/-- A frame of what is new behind w0. -/
theorem Fr.belowW {w0 : World} (h : Fr Ts Bs w w') (h0 : Below w0.heap.size w0 w) (hT : ∀ (k : Nat) c t m, w0.heap[k]? = some (Obj.cells c t m) → ¬ Ts t) (hB : ∀ k, Bs k → w0.heap.size ≤ k) : Below w0.heap.size w0 w' :=
  ⟨h.os.trans h0.os, h.tape.trans h0.tape, h.output.trans h0.output, Nat.le_trans h0.size h.size, fun k hk => by
    obtain ⟨o, ho⟩ : ∃ o, w0.heap[k]? = some o := ⟨w0.heap[k], Array.getElem?_eq_getElem hk⟩
    rw [ho]
    exact h.block k o ((h0.block k hk).trans ho) (fun e => by have := hB k e; omega) fun c t m e => by subst e; exact hT k c t m ho⟩
theorem Fr.boxed (h : Fr Ts Bs w w') {B : Nat} {t : TypeId} {v : Value} (hb : Boxed w B t v) (h1 : ¬ Bs B) (h2 : ¬ Ts t) : Boxed w' B t v := h.block _ _ hb h1 fun c t' m e => by cases e; exact h2
theorem Fr.obj (h : Fr Ts Bs w w') {k : Nat} {ds : Option (List Deferred)} (hk : w.heap[k]? = some (.deferred ds)) (h1 : ¬ Bs k) : w'.heap[k]? = some (.deferred ds) := h.block _ _ hk h1 fun c t m e => by cases e
theorem Fr.own (h : Fr Ts Bs w w') {base size k : Nat} {e : TypeId} {v : Value} {xs : List Value} (hr : w.ownsRow base e size v k xs) (h1 : ∀ g, v.ownBlock = some g → ¬ Bs g) (h2 : ¬ Ts e) : w'.ownsRow base e size v k xs := by
  refine ⟨hr.1, ?_⟩
  rcases hr.2 with hn | ⟨g, c, cur, rfl, a1, a2, r⟩
  · exact .inl hn
  · exact .inr ⟨g, c, cur, rfl, a1, h.block g _ a2 (h1 g rfl) fun c t m e => (by cases e; exact h2), r⟩
theorem Fr.typ8 (h : Fr Ts Bs w w') {v : Value} (ht : Typ8 w v) (h1 : ∀ g, v.ownBlock = some g → ¬ Bs g) (h2 : ¬ Ts 5) : Typ8 w' v := fun k hk => by
  obtain ⟨cs, m, a⟩ := ht k hk
  exact ⟨cs, m, h.block k _ a (h1 k hk) fun c t m e => (by cases e; exact h2)⟩
/-- Bytes in a block of bytes. -/
theorem Fr.rd8 (h : Fr Ts Bs w w') {A : Option Addr} {n c : Nat} {f : Nat → Nat} (hr : Rd .u8 w A n f) (ht : Typ8 w (.slice A n c)) (h1 : ∀ ad, A = some ad → ¬ Bs ad.block) (h2 : ¬ Ts 5) : Rd .u8 w' A n f := fun j hj => by
  obtain ⟨ad, e, hc⟩ := hr j hj
  obtain ⟨cs, m, hk⟩ := ht ad.block (by rw [e]; rfl)
  refine ⟨ad, e, (World.cell?_of_block ?_).trans hc⟩
  rw [add_block]
  exact (h.block _ _ hk (h1 ad e) fun c t m e => (by cases e; exact h2)).trans hk.symm
end
/-- A box's block is no block of bytes. -/
theorem boxed_not8 {w : World} {v : Value} (ht : Typ8 w v) {B : Nat} {t : TypeId} {u : Value} (hb : Boxed w B t u) (hne : t ≠ 5) : ∀ g, v.ownBlock = some g → g ≠ B := fun g hg e => by
  obtain ⟨cs, m, h⟩ := ht g hg
  rw [e, show w.heap[B]? = _ from hb] at h
  simp at h
  exact hne h.2.1
/-- A list of rows of bytes, of one's own. -/
def RecsAt (w : World) (base : Nat) (v : Value) (rs : List Rec) : Prop :=
  ∃ vs : List Value, w.ownsRow base 35 1 v rs.length vs ∧ ∀ (i : Nat) (r : Rec), rs[i]? = some r → ∃ u, vs[i]? = some u ∧ Byt w u r.1 r.2 ∧ Typ8 w u
theorem byt_typ {w w' : World} {u : Value} {n : Nat} {f : Nat → Nat} {Ts : TypeId → Prop} {Bs : Nat → Prop} (h : Fr Ts Bs w w') (hb : Byt w u n f) (ht : Typ8 w u) (h1 : ∀ g, u.ownBlock = some g → ¬ Bs g) (h2 : ¬ Ts 5) : Byt w' u n f ∧ Typ8 w' u := by
  refine ⟨?_, h.typ8 ht h1 h2⟩
  obtain ⟨A, c, rfl, hc, hr, hf⟩ := hb
  exact ⟨A, c, rfl, hc, h.rd8 hr ht (fun ad e => h1 ad.block (by rw [e]; rfl)) h2, hf⟩
theorem RecsAt.nil (w : World) (base : Nat) : RecsAt w base (.slice none 0 0) [] := ⟨[], ⟨rfl, .inl ⟨rfl, rfl⟩⟩, fun i r h => by simp at h⟩
theorem RecsAt.fr {w w' : World} {base : Nat} {v : Value} {rs : List Rec} {Ts : TypeId → Prop} {Bs : Nat → Prop} (h : RecsAt w base v rs) (k : Fr Ts Bs w w') (h8 : ¬ Ts 5) (hl : ¬ Ts 35) (hB : ∀ g, Bs g → ∀ c m, w.heap[g]? ≠ some (Obj.cells c 5 m) ∧ w.heap[g]? ≠ some (Obj.cells c 35 m)) : RecsAt w' base v rs := by
  obtain ⟨vs, h1, h2⟩ := h
  refine ⟨vs, k.own h1 (fun g hg hb => ?_) hl, fun i r hr => ?_⟩
  · rcases h1.2 with ⟨rfl, _⟩ | ⟨g', cap, cur, rfl, _, hgb, _⟩
    · cases hg
    · injection hg with hg
      subst hg
      exact (hB _ hb cur (0, 0)).2 hgb
  · obtain ⟨u, hu, hb, ht⟩ := h2 i r hr
    exact ⟨u, hu, byt_typ k hb ht (fun g hg hbs => by
      obtain ⟨cs, m', h⟩ := ht g hg
      exact (hB _ hbs cs m').1 h) h8⟩
/-- A box of another type. -/
theorem boxed_other {w : World} {B : Nat} {t : TypeId} {u : Value} (h : Boxed w B t u) (h1 : t ≠ 5) (h2 : t ≠ 35) : ∀ c m, w.heap[B]? ≠ some (Obj.cells c 5 m) ∧ w.heap[B]? ≠ some (Obj.cells c 35 m) := fun c m => by
  rw [show w.heap[B]? = _ from h]
  exact ⟨fun e => by simp at e; exact h1 e.2.1, fun e => by simp at e; exact h2 e.2.1⟩
theorem RecsAt.below {w w' : World} {base : Nat} {v : Value} {rs : List Rec} (h : RecsAt w base v rs) (k : Below w.heap.size w w') : RecsAt w' base v rs := h.fr (Ts := fun _ => False) (Bs := fun _ => False) (.of_below k) id id fun g h => h.elim
/-- One more row. -/
theorem RecsAt.snoc {w w' : World} {base : Nat} {v v' u : Value} {rs : List Rec} {r : Rec} {vs : List Value} (hrow : w'.ownsRow base 35 1 v' (rs.length + 1) (vs ++ [u])) (hlen : vs.length = rs.length) (hold : ∀ (i : Nat) (r : Rec), rs[i]? = some r → ∃ u, vs[i]? = some u ∧ Byt w' u r.1 r.2 ∧ Typ8 w' u) (hnew : Byt w' u r.1 r.2 ∧ Typ8 w' u) : RecsAt w' base v' (rs ++ [r]) := by
  refine ⟨vs ++ [u], by rw [List.length_append]; exact hrow, fun i r' hi => ?_⟩
  by_cases h : i < rs.length
  · rw [List.getElem?_append_left h] at hi
    obtain ⟨u', h1, h2⟩ := hold i r' hi
    exact ⟨u', by rw [List.getElem?_append_left (by omega)]; exact h1, h2⟩
  · have hil := (List.getElem?_eq_some_iff.1 hi).1
    simp at hil
    obtain rfl : i = rs.length := by omega
    simp at hi
    subst hi
    exact ⟨u, by rw [← hlen]; simp, hnew⟩
end Go.Proofs.Yteeomidlnijfbaa

/- What the loops of a scan carry. -/
namespace Go.Proofs.Yteeomidlnijfbaa
open Go.RowKit Go.Shelf
set_option linter.unusedSimpArgs false
set_option linter.unusedVariables false

/-- All that is no loop's record has stayed. -/
def Fl (V V' : World) : Prop := ∀ (k : Nat) (o : Obj), V.heap[k]? = some o → (∀ r, o ≠ Obj.loop r) → V'.heap[k]? = some o
section
variable {V V' : World}
theorem fl_below (h : Below V.heap.size V V') : Fl V V' := fun k o hk _ => (h.block k (Array.getElem?_eq_some_iff.1 hk).1).trans hk
theorem fl_put {l : Nat} {r : Loop} (h : V.heap[l]? = some (.loop r)) (o : Obj) : Fl V (V.putObj l o) := fun k o' hk hn => by
  rw [World.putObj_heap_other (fun e => by rw [e, h] at hk; injection hk with hk; exact hn r hk.symm)]
  exact hk
theorem Fl.boxed (k : Fl V V') {B : Nat} {t : TypeId} {v : Value} (h : Boxed V B t v) : Boxed V' B t v := k _ _ h fun r e => by cases e
theorem Fl.own (k : Fl V V') {base n size : Nat} {e : TypeId} {v : Value} {xs : List Value} (h : V.ownsRow base e size v n xs) : V'.ownsRow base e size v n xs := by
  refine ⟨h.1, ?_⟩
  rcases h.2 with hn | ⟨g, c, cur, rfl, h1, h2, r⟩
  · exact .inl hn
  · exact .inr ⟨g, c, cur, rfl, h1, k _ _ h2 fun r e => (by cases e), r⟩
theorem Fl.typ8 (k : Fl V V') {v : Value} (h : Typ8 V v) : Typ8 V' v := fun g hg => by
  obtain ⟨cs, m, a⟩ := h g hg
  exact ⟨cs, m, k _ _ a fun r e => by cases e⟩
theorem Fl.rd (k : Fl V V') {K : IntKind} {A : Option Addr} {n : Nat} {f : Nat → Nat} (h : Rd K V A n f) : Rd K V' A n f := fun j hj => by
  obtain ⟨ad, e, hc⟩ := h j hj
  refine ⟨ad, e, (World.cell?_of_block ?_).trans hc⟩
  have hl := block_lt_of_cell hc
  have ho : V.heap[(ad.add j).block]? = some V.heap[(ad.add j).block] := Array.getElem?_eq_getElem hl
  rw [ho]
  refine k _ _ ho fun r e2 => ?_
  rw [e2] at ho
  rw [World.cell?, ho] at hc
  cases hc
theorem Fl.hasD (k : Fl V V') {D : CellD} (h : HasD V D) : HasD V' D := ⟨k.rd h.1, h.2.1, h.2.2.1, k.typ8 h.2.2.2⟩
theorem Fl.boxH (k : Fl V V') {b g s : Nat} {p q : Int} {A : Option Addr} {n c : Nat} (h : BoxH V b g s p q A n c) : BoxH V' b g s p q A n c := k _ _ h fun r e => by cases e
theorem Fl.byt (k : Fl V V') {u : Value} {n : Nat} {f : Nat → Nat} (h : Byt V u n f) : Byt V' u n f := by
  obtain ⟨A, c, h1, h2, h3, h4⟩ := h
  exact ⟨A, c, h1, h2, k.rd h3, h4⟩
theorem Fl.recs (k : Fl V V') {base : Nat} {v : Value} {rs : List Rec} (h : RecsAt V base v rs) : RecsAt V' base v rs := by
  obtain ⟨vs, h1, h2⟩ := h
  refine ⟨vs, k.own h1, fun i r hr => ?_⟩
  obtain ⟨u, a, b, c⟩ := h2 i r hr
  exact ⟨u, a, k.byt b, k.typ8 c⟩
theorem Fl.defer (k : Fl V V') {D : Nat} {ds : Option (List Deferred)} (h : V.heap[D]? = some (.deferred ds)) : V'.heap[D]? = some (.deferred ds) := k _ _ h fun r e => by cases e
end
/-- So far the records are these. -/
def Hist (T : Nat → Option (Nat → Nat)) (Q : QS) (E L : Nat) (rs : List Rec) : Prop := Q.first ≤ E ∧ E ≤ Q.behind ∧ rs.length ≤ E ∧ ∀ rest e l, Scn T Q.behind Q.gen E L rest e l → Scn T Q.behind Q.gen Q.first 0 (rs ++ rest) e l
structure OutS (w : World) (gq B1 B2 B3 B4 B5 B6 : Nat) (V : World) (E L : Nat) (rs : List Rec) (v4 : Value) (ds : List Nat) : Prop where
  bel : Below w.heap.size w V
  x1 : Boxed V B1 28 (.pointer (some ⟨gq, 0, none⟩))
  x2 : Boxed V B2 32 (.slice none 0 0)
  x3 : Boxed V B3 3 (.int .i64 0)
  x4 : Boxed V B4 32 v4
  recs : RecsAt V w.heap.size v4 rs
  x5 : Boxed V B5 3 (.int .i64 (E : Nat))
  x6 : Boxed V B6 31 (.int .u32 (L : Nat))
  dfs : ∀ D ∈ ds, V.heap[D]? = some (.deferred (some []))
  nd : ds.Nodup
  dge : ∀ D ∈ ds, w.heap.size ≤ D
  lim : L < 4294967296
theorem OutS.fl {w V V' : World} {gq B1 B2 B3 B4 B5 B6 E L : Nat} {rs : List Rec} {v4 : Value} {ds : List Nat} (h : OutS w gq B1 B2 B3 B4 B5 B6 V E L rs v4 ds) (k : Fl V V') (hb : Below w.heap.size w V') : OutS w gq B1 B2 B3 B4 B5 B6 V' E L rs v4 ds :=
  ⟨hb, k.boxed h.x1, k.boxed h.x2, k.boxed h.x3, k.boxed h.x4, k.recs h.recs, k.boxed h.x5, k.boxed h.x6, fun D hD => k.defer (h.dfs D hD), h.nd, h.dge, h.lim⟩
/-- The body of a round turns its list of cells, and its box. -/
theorem OutS.fr {w V V' : World} {gq B1 B2 B3 B4 B5 B6 B7 E L : Nat} {rs : List Rec} {v4 v7 : Value} {ds : List Nat} (h : OutS w gq B1 B2 B3 B4 B5 B6 V E L rs v4 ds) (k : Fr (· = 97) (· = B7) V V') (hb : Below w.heap.size w V') (h7 : Boxed V B7 109 v7) : OutS w gq B1 B2 B3 B4 B5 B6 V' E L rs v4 ds := by
  have ne : ∀ {B : Nat} {t : TypeId} {v : Value}, Boxed V B t v → t ≠ 109 → ¬ B = B7 := fun hB ht e => by
    subst e
    have := (show V.heap[_]? = _ from hB).symm.trans h7
    simp at this
    exact ht this.2
  refine ⟨hb, k.boxed h.x1 (ne h.x1 (by decide)) (by decide), k.boxed h.x2 (ne h.x2 (by decide)) (by decide), k.boxed h.x3 (ne h.x3 (by decide)) (by decide), k.boxed h.x4 (ne h.x4 (by decide)) (by decide), ?_, k.boxed h.x5 (ne h.x5 (by decide)) (by decide), k.boxed h.x6 (ne h.x6 (by decide)) (by decide), fun D hD => k.obj (h.dfs D hD) (fun e => ?_), h.nd, h.dge, h.lim⟩
  · refine h.recs.fr k (by decide) (by decide) fun g hg => ?_
    obtain rfl : g = B7 := hg
    exact boxed_other h7 (by decide) (by decide)
  · have := h.dfs D hD
    rw [e, show V.heap[B7]? = _ from h7] at this
    cases this
/-- What has been told. -/
structure FinS (T : Nat → Option (Nat → Nat)) (Q : QS) (w : World) (B2 B3 : Nat) (V : World) (ds : List Nat) (rs : List Rec) (e : Nat) : Prop where
  bel : Below w.heap.size w V
  x2 : ∃ v, Boxed V B2 32 v ∧ RecsAt V w.heap.size v rs
  x3 : Boxed V B3 3 (.int .i64 (e : Nat))
  dfs : ∀ D ∈ ds, V.heap[D]? = some (.deferred (some []))
  scn : ∃ l, Scn T Q.behind Q.gen Q.first 0 rs e l
theorem FinS.fl {T : Nat → Option (Nat → Nat)} {Q : QS} {w V V' : World} {B2 B3 : Nat} {ds : List Nat} {rs : List Rec} {e : Nat} (h : FinS T Q w B2 B3 V ds rs e) (k : Fl V V') (hb : Below w.heap.size w V') : FinS T Q w B2 B3 V' ds rs e := by
  obtain ⟨v, h1, h2⟩ := h.x2
  exact ⟨hb, ⟨v, k.boxed h1, k.recs h2⟩, k.boxed h.x3, fun D hD => k.defer (h.dfs D hD), h.scn⟩
def listX (pre : List CellD) : Nat → CellD := fun i => pre.getD i zeroD
/-- A cell of the record that is being gathered. -/
def PreD (T : Nat → Option (Nat → Nat)) (gen E L : Nat) (V : World) (i : Nat) (D : CellD) : Prop := HasD V D ∧ cellB (T (E + i)) = true ∧ sameX D (cellX (T (E + i))) ∧ (cellX (T (E + i))).g = gen ∧ L < (cellX (T (E + i))).s
structure InS (T : Nat → Option (Nat → Nat)) (Q : QS) (w : World) (gq B1 B2 B3 B4 B5 B6 B7 Bi Bq : Nat) (E L : Nat) (rs : List Rec) (v4 : Value) (ds : List Nat) (pre : List CellD) (v7 : Value) (V : World) : Prop where
  out : OutS w gq B1 B2 B3 B4 B5 B6 V E L rs v4 ds
  x7 : Boxed V B7 109 v7
  own : OwnC V w.heap.size v7 pre.length (listX pre)
  xi : Boxed V Bi 3 (.int .i64 (E : Nat))
  xq : Boxed V Bq 28 (.pointer (some ⟨gq, 0, none⟩))
  pres : ∀ i D, pre[i]? = some D → PreD T Q.gen E L V i D
  le : E + pre.length ≤ Q.behind
  non : ∀ q, 0 < q → q ≤ pre.length → ¬ joinP q (fun k => cellX (T (E + k)))
section
variable {T : Nat → Option (Nat → Nat)} {Q : QS} {w V V' : World} {gq B1 B2 B3 B4 B5 B6 B7 Bi Bq : Nat} {E L : Nat} {rs : List Rec} {v4 : Value} {ds : List Nat} {pre : List CellD} {v7 : Value}
theorem InS.fl (h : InS T Q w gq B1 B2 B3 B4 B5 B6 B7 Bi Bq E L rs v4 ds pre v7 V) (k : Fl V V') (hb : Below w.heap.size w V') : InS T Q w gq B1 B2 B3 B4 B5 B6 B7 Bi Bq E L rs v4 ds pre v7 V' :=
  ⟨h.out.fl k hb, k.boxed h.x7, k.own h.own, k.boxed h.xi, k.boxed h.xq, fun i D hi => by
    obtain ⟨a, b⟩ := h.pres i D hi
    exact ⟨k.hasD a, b⟩, h.le, h.non⟩
theorem listX_snoc {x : CellD} {i : Nat} (hi : i < pre.length + 1) : listX (pre ++ [x]) i = if i < pre.length then listX pre i else x := by
  unfold listX
  split
  · rename_i h
    simp [List.getElem?_append_left h]
  · obtain rfl : i = pre.length := by omega
    simp
theorem listX_get {i : Nat} (hi : i < pre.length) : pre[i]? = some (listX pre i) := by
  unfold listX
  simp [hi]
/-- Whether cells join hangs on what they say alone. -/
theorem joinP_congr {n : Nat} {X Y : Nat → CellD} (h : ∀ i, i < n → sameX (X i) (Y i)) : joinP n X ↔ joinP n Y := by
  unfold joinP joinB
  constructor
  · rintro ⟨h0, hj⟩
    refine ⟨h0, fun i hi => ?_⟩
    obtain ⟨a1, a2, a3, a4, a5, _⟩ := h i hi
    obtain ⟨b1, b2, _⟩ := h 0 h0
    have := hj i hi
    rw [a1, a2, a3, a4, a5, b1, b2] at this
    exact this
  · rintro ⟨h0, hj⟩
    refine ⟨h0, fun i hi => ?_⟩
    obtain ⟨a1, a2, a3, a4, a5, _⟩ := h i hi
    obtain ⟨b1, b2, _⟩ := h 0 h0
    rw [a1, a2, a3, a4, a5, b1, b2]
    exact hj i hi
theorem join_same {n : Nat} {X Y : Nat → CellD} (hj : joinP n X) (h : ∀ i, i < n → sameX (X i) (Y i)) : joinN n X n = joinN n Y n ∧ ∀ j, j < joinN n X n → joinF X j = joinF Y j := by
  have h0 := hj.1
  have e : joinN n X n = joinN n Y n := by
    rw [joinN, joinN, if_neg (by omega), if_neg (by omega), (h (n - 1) (by omega)).2.2.2.2.1]
  refine ⟨e, fun j hlt => ?_⟩
  rw [joinN, if_neg (by omega)] at hlt
  have hf := join_few (hj.2 (n - 1) (by omega))
  have hi : j / 49 < n := by omega
  unfold joinF
  rw [(h (j / 49) hi).2.2.2.2.2]
end
theorem results_two {fn : Func} (h : fn.results = #[.cell 2 32, .cell 3 3]) {tmps : Array Value} {w : World} {B2 B3 : Nat} {A : Option Addr} {n c : Nat} {k : Int} (h2 : tmps.getD 2 undef = .pointer (some ⟨B2, 0, none⟩)) (h3 : tmps.getD 3 undef = .pointer (some ⟨B3, 0, none⟩)) (c2 : w.cell? ⟨B2, 0, none⟩ = some (.slice A n c)) (c3 : w.cell? ⟨B3, 0, none⟩ = some (.int .i64 k)) :
    (results fn tmps).run Try.prog w = .ok (.tuple #[.slice A n c, .int .i64 k]) w := by
  have l2 := block_lt_of_cell c2
  have l3 := block_lt_of_cell c3
  simp only [results, h]
  simp at h2 h3
  simp [Sem.run_bind, Result.andThen, h2, h3]
  go_simp
def RecPost (T : Nat → Option (Nat → Nat)) (Q : QS) (w w' : World) (e : Ending) : Prop :=
  (∃ rs en v, e = .returned (.tuple #[v, .int .i64 (en : Nat)]) ∧ RecsAt w' w.heap.size v rs ∧ (∃ l, Scn T Q.behind Q.gen Q.first 0 rs en l)) ∧ Below w.heap.size w w'
theorem RecsAt.form {w : World} {base : Nat} {v : Value} {rs : List Rec} (h : RecsAt w base v rs) : ∃ A c, v = .slice A rs.length c := by
  obtain ⟨vs, h1, _⟩ := h
  rcases h1.2 with ⟨rfl, h0⟩ | ⟨g, c, _, rfl, _⟩
  · exact ⟨none, 0, by rw [h0]⟩
  · exact ⟨_, c, rfl⟩
theorem fin_leave {T : Nat → Option (Nat → Nat)} {Q : QS} {w V : World} {B2 B3 : Nat} {ds : List Nat} {rs : List Rec} {en : Nat} {F : Fence} {n : Nat} {fn : Func} {tmps : Array Value} (hfn : fn.results = #[.cell 2 32, .cell 3 3]) (h2 : tmps.getD 2 undef = .pointer (some ⟨B2, 0, none⟩)) (h3 : tmps.getD 3 undef = .pointer (some ⟨B3, 0, none⟩))
    (h : FinS T Q w B2 B3 V ds rs en) (hnd : ds.Nodup) (hge : ∀ D ∈ ds, w.heap.size ≤ D) : LeavesInM F n Try.prog fn tmps (fun e w' => RecPost T Q w w' e) (ds.map markD) .returning V := by
  refine marks_leave ds V h.dfs hnd fun w' ho hs => ?_
  have hfr : Fr (fun _ => False) (· ∈ ds) V w' := ⟨ho.os, ho.tape, ho.output, ho.size, fun k o h1 h2 _ => (ho.block k (Array.getElem?_eq_some_iff.1 h1).1 h2).trans h1⟩
  have hno : ∀ {B : Nat} {t : TypeId} {v : Value}, Boxed V B t v → ¬ B ∈ ds := fun hb hm => by
    have := h.dfs _ hm
    rw [show V.heap[_]? = _ from hb] at this
    cases this
  obtain ⟨v, hv, hr⟩ := h.x2
  have hv' := hfr.boxed hv (hno hv) id
  have h3' := hfr.boxed h.x3 (hno h.x3) id
  have hr' := hr.fr hfr id id fun g hg c m => by
    rw [h.dfs g hg]
    exact ⟨(fun e => by cases e), (fun e => by cases e)⟩
  obtain ⟨A, c, rfl⟩ := hr.form
  exact ⟨_, results_two hfn h2 h3 hv'.cell h3'.cell, ⟨rs, en, _, rfl, hr', h.scn⟩, h.bel.trans (ho.below h.bel.size fun k hk => hge k hk)⟩
theorem fin_set {T : Nat → Option (Nat → Nat)} {Q : QS} {w W : World} {gq B1 B2 B3 B4 B5 B6 E L : Nat} {rs : List Rec} {v4 : Value} {ds : List Nat} (h : OutS w gq B1 B2 B3 B4 B5 B6 W E L rs v4 ds) (hn : w.heap.size ≤ B2 ∧ B2 < B3) (hs : ∃ l, Scn T Q.behind Q.gen Q.first 0 rs E l) {ds' : List Nat} (hd : ∀ D ∈ ds', W.heap[D]? = some (.deferred (some []))) :
    FinS T Q w B2 B3 ((W.setCell ⟨B2, 0, none⟩ v4).setCell ⟨B3, 0, none⟩ (.int .i64 (E : Nat))).drew ds' rs E := by
  have hfr : Fr (fun _ => False) (fun k => k = B2 ∨ k = B3) W ((W.setCell ⟨B2, 0, none⟩ v4).setCell ⟨B3, 0, none⟩ (.int .i64 (E : Nat))).drew := ((Fr.refl.set (.inl rfl) _).set (.inr rfl) _).drew
  have hb : Below w.heap.size w ((W.setCell ⟨B2, 0, none⟩ v4).setCell ⟨B3, 0, none⟩ (.int .i64 (E : Nat))).drew := hfr.belowW h.bel (fun _ _ _ _ _ => id) (by rintro k (rfl | rfl) <;> omega)
  have x2 : Boxed (W.setCell ⟨B2, 0, none⟩ v4) B2 32 v4 := h.x2.set v4
  have x3 : Boxed (W.setCell ⟨B2, 0, none⟩ v4) B3 3 (.int .i64 0) := (Below.heap_setCell W ⟨B2, 0, none⟩ v4 B3 (by show B3 ≠ B2; omega)).trans h.x3
  have hr := h.recs.fr hfr id id (by
    rintro g (rfl | rfl)
    · exact boxed_other h.x2 (by decide) (by decide)
    · exact boxed_other h.x3 (by decide) (by decide))
  refine ⟨hb, ⟨v4, (Below.heap_setCell _ ⟨B3, 0, none⟩ _ B2 (by show B2 ≠ B3; omega)).trans x2, hr⟩, x3.set _, fun D hD => ?_, hs⟩
  have hd1 := hd D hD
  refine hfr.obj hd1 ?_
  rintro (rfl | rfl)
  · rw [show W.heap[_]? = _ from h.x2] at hd1; cases hd1
  · rw [show W.heap[_]? = _ from h.x3] at hd1; cases hd1
end Go.Proofs.Yteeomidlnijfbaa
